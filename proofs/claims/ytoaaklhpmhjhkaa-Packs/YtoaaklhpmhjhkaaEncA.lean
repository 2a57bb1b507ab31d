/-
  Lists of numbers in memory, and lists that grow.
-/
import Derived.Test.YtoaaklhpmhjhkaaRows
import Derived.WalkKit
import Derived.WalkSpells
import Derived.WalkLawsBesides
import Derived.Deep.QuietTactic
import Derived.BigQuiet
import Derived.Deep.RegionHeld3
import Derived.ArgAppend
import Derived.Laws.IdiomCopy
import Derived.Laws.IdiomStrings
import Derived.Laws.BitsAllLaws
import Derived.Lib.SlBytesConst
import Derived.Test.YtoaaklhpmhjhkaaPlain
namespace Go.Proofs.Ytoaaklhpmhjhkaa
open Go.RowKit

/-- Numbers at an address: f 0, .., f (n - 1). -/
def IL (ad : Option Addr) (f : Nat → Int) (n : Nat) (w : World) : Prop :=
  ∀ i, i < n → ∃ b off, ad = some ⟨b, off, none⟩ ∧ w.cell? ⟨b, off + i, none⟩ = some (.int .i64 (f i))
theorem IL.below {ad : Option Addr} {f : Nat → Int} {n : Nat} {w w' : World} (h : IL ad f n w) (hW : Below w.heap.size w w') : IL ad f n w' := fun i hi => by
  obtain ⟨b, off, h1, h2⟩ := h i hi
  refine ⟨b, off, h1, ?_⟩
  rw [hW.cell (p := ⟨b, off + i, none⟩) (World.block_lt_of_cell? w ⟨b, off + i, none⟩ h2)]; exact h2
theorem IL.belowB {ad : Option Addr} {f : Nat → Int} {n B : Nat} {w0 w w' : World} (h : IL ad f n w0) (hB : w0.heap.size ≤ B) (h0 : Below w0.heap.size w0 w) (hW : Below B w w') : IL ad f n w' :=
  h.below (h0.trans (hW.mono hB))
theorem eInfoInt : ∃ i, Try.prog.info? 3 = some i ∧ i.zero = some (.int .i64 0) ∧ i.size = 1 ∧ i.bytes = 8 := by
  have h1 : (Try.prog.info? 3).isSome = true := by kernel_rfl
  obtain ⟨i, hi⟩ := Option.isSome_iff_exists.1 h1
  refine ⟨i, hi, ?_, ?_, ?_⟩
  · have : ((Try.prog.info? 3).bind (·.zero)) = some (.int .i64 0) := by kernel_rfl
    rw [hi] at this; exact this
  · have : ((Try.prog.info? 3).map (·.size)) = some 1 := by kernel_rfl
    rw [hi] at this; simpa using this
  · have : ((Try.prog.info? 3).map (·.bytes)) = some 8 := by kernel_rfl
    rw [hi] at this; simpa using this
theorem eInfoU8 : ∃ i, Try.prog.info? 5 = some i ∧ i.zero = some (.int .u8 0) ∧ i.size = 1 ∧ i.bytes = 1 := by
  have h1 : (Try.prog.info? 5).isSome = true := by kernel_rfl
  obtain ⟨i, hi⟩ := Option.isSome_iff_exists.1 h1
  refine ⟨i, hi, ?_, ?_, ?_⟩
  · have : ((Try.prog.info? 5).bind (·.zero)) = some (.int .u8 0) := by kernel_rfl
    rw [hi] at this; exact this
  · have : ((Try.prog.info? 5).map (·.size)) = some 1 := by kernel_rfl
    rw [hi] at this; simpa using this
  · have : ((Try.prog.info? 5).map (·.bytes)) = some 1 := by kernel_rfl
    rw [hi] at this; simpa using this
theorem eInfoBool : ∃ i, Try.prog.info? 4 = some i ∧ i.zero = some (.bool false) ∧ i.size = 1 ∧ i.bytes = 1 := by
  have h1 : (Try.prog.info? 4).isSome = true := by kernel_rfl
  obtain ⟨i, hi⟩ := Option.isSome_iff_exists.1 h1
  refine ⟨i, hi, ?_, ?_, ?_⟩
  · have : ((Try.prog.info? 4).bind (·.zero)) = some (.bool false) := by kernel_rfl
    rw [hi] at this; exact this
  · have : ((Try.prog.info? 4).map (·.size)) = some 1 := by kernel_rfl
    rw [hi] at this; simpa using this
  · have : ((Try.prog.info? 4).map (·.bytes)) = some 1 := by kernel_rfl
    rw [hi] at this; simpa using this

/-- A list that is ours: its cells, and room behind them; it lies at base or above. -/
def Grows (base : Nat) (v : Value) (cs : List Value) (w : World) : Prop :=
  (v = .slice none 0 0 ∧ cs = []) ∨ ∃ g cap, v = .slice (some ⟨g, 0, none⟩) cs.length cap ∧ base ≤ g ∧ g < w.heap.size ∧ cs.length ≤ cap ∧
    (∀ j u, cs[j]? = some u → w.cell? ⟨g, j, none⟩ = some u) ∧ ∀ j, j < cap → (w.cell? ⟨g, j, none⟩).isSome = true ∧ w.frozen? ⟨g, j, none⟩ = false
theorem Grows.nil (base : Nat) (w : World) : Grows base (.slice none 0 0) [] w := Or.inl ⟨rfl, rfl⟩
theorem Grows.ge {base : Nat} {v : Value} {cs : List Value} {w : World} (h : Grows base v cs w) : ∀ k, v.ownBlock = some k → base ≤ k := by
  intro k hk
  rcases h with ⟨rfl, _⟩ | ⟨g, cap, rfl, hb, _⟩
  · cases hk
  · cases hk; exact hb
theorem Grows.block {base : Nat} {v : Value} {cs : List Value} {w w' : World} (h : Grows base v cs w) (hs : w.heap.size ≤ w'.heap.size) (hb : ∀ k, k < w.heap.size → v.ownBlock = some k → w'.heap[k]? = w.heap[k]?) : Grows base v cs w' := by
  rcases h with h | ⟨g, cap, rfl, h1, h2, h3, h4, h5⟩
  · exact Or.inl h
  · have hk := hb g h2 rfl
    refine Or.inr ⟨g, cap, rfl, h1, by omega, h3, fun j u hu => ?_, fun j hj => ?_⟩
    · rw [World.cell?_of_block (w := w) (a := ⟨g, j, none⟩) hk]; exact h4 j u hu
    · rw [World.cell?_of_block (w := w) (a := ⟨g, j, none⟩) hk, World.frozen?_of_block (w := w) (a := ⟨g, j, none⟩) hk]; exact h5 j hj
theorem Grows.below {base : Nat} {v : Value} {cs : List Value} {w w' : World} (h : Grows base v cs w) (hW : Below w.heap.size w w') : Grows base v cs w' :=
  h.block hW.size (fun k hk _ => hW.block k hk)
theorem Grows.alloc {base : Nat} {v : Value} {cs : List Value} {w : World} (h : Grows base v cs w) (o : Obj) : Grows base v cs (w.alloc o) :=
  h.below ((Below.refl _ _).alloc (Nat.le_refl _) o)
theorem Grows.grown {base : Nat} {v : Value} {cs : List Value} {w w' : World} {row : Option Nat} (h : Grows base v cs w) (hg : w.grownBy w' row) (hne : ∀ k, v.ownBlock = some k → row ≠ some k) : Grows base v cs w' :=
  h.block hg.size (fun k hk hv => hg.block k hk (fun e => hne k hv e.symm))
theorem Grows.mono {base base' : Nat} {v : Value} {cs : List Value} {w : World} (h : Grows base v cs w) (hb : base' ≤ base) : Grows base' v cs w := by
  rcases h with h | ⟨g, cap, h0, h1, h2⟩
  · exact Or.inl h
  · exact Or.inr ⟨g, cap, h0, Nat.le_trans hb h1, h2⟩
theorem Grows.ofOwns {base : Nat} {e : TypeId} {v : Value} {n : Nat} {cs : List Value} {w : World} (h : w.ownsRow base e 1 v n cs) : Grows base v cs w := by
  have hl : cs.length = n := by simpa using h.1
  rcases h.2 with ⟨rfl, h0⟩ | ⟨g, cap, cur, rfl, h1, h2, h3, h4, h5, h6⟩
  · exact Or.inl ⟨rfl, List.eq_nil_of_length_eq_zero (by omega)⟩
  · refine Or.inr ⟨g, cap, by rw [hl], h1, (Array.getElem?_eq_some_iff.1 h2).1, by omega, fun j u hu => ?_, fun j hj => ?_⟩
    · have := h.cells (g := g) rfl j u hu
      rw [Addr.add_lit] at this
      simpa using this
    · rw [cell_of_row w g j cur e (0, 0) h2]
      refine ⟨by simp; omega, ?_⟩
      simp [World.frozen?, h2]
theorem setCells_size (b : Nat) : ∀ (vs : List Value) (o : Nat) (w : World), (w.setCells b o vs).heap.size = w.heap.size
  | [], _, _ => rfl
  | v :: r, o, w => by rw [World.setCells, setCells_size b r]; simp [World.setCell]
theorem setCells_grown (b : Nat) : ∀ (vs : List Value) (o : Nat) (w : World), w.grownBy (w.setCells b o vs) (some b)
  | [], _, w => ⟨rfl, rfl, rfl, Nat.le_refl _, fun _ _ _ => rfl⟩
  | v :: r, o, w => by
    have h := setCells_grown b r (o + 1) (w.setCell ⟨b, o, none⟩ v)
    refine ⟨h.os, h.tape, h.output, ?_, fun k hk hne => ?_⟩
    · rw [setCells_size]; exact Nat.le_refl _
    · rw [World.setCells, h.block k (by simpa [World.setCell] using hk) hne]
      exact Below.heap_setCell w ⟨b, o, none⟩ v k (fun e => hne (by rw [e]))

/-- append to a list of ours. -/
theorem wpList_grow {w : World} {ops : Array Oper} {rest : List Oper} {o : Oper} {a : Act} {Q : Exit → Act → World → Prop} (hgd : o.guard = none) (s x : Operand) (t e : TypeId)
    (ho : o.op = .call { callee := .builtin .append, args := #[s, x], argTypes := #[t, t] }) (i : TypeInfo) (z : Value) (bytes : Nat)
    (ht : Try.prog.underlying t = some (.slice e)) (hi : Try.prog.info? e = some i) (hz : i.zero = some z) (hsize : i.size = 1) (hby : i.bytes = bytes) (hzs : z.cells.size = 1) (hbyt : bytes ≤ 8) (base : Nat)
    (v : Value) (cs : List Value) (hs : a.eval s = v) (hG : Grows base v cs w)
    (B m : Nat) (news : List Value) (hx : a.eval x = .slice (some ⟨B, 0, none⟩) m m) (hl : news.length = m) (hnews : ∀ j u, news[j]? = some u → w.cell? ⟨B, j, none⟩ = some u) (h1c : ∀ u ∈ news, u.oneCell' = true)
    (hb : cs.length + m ≤ 100000000) (hbase : base ≤ w.heap.size) (hm : 0 < m)
    (h : ∀ g cap w', Grows base (.slice (some ⟨g, 0, none⟩) (cs.length + m) cap) (cs ++ news) w' → w.grownBy w' v.ownBlock → wpList Try.prog ops Q rest (a.put o.dst (.slice (some ⟨g, 0, none⟩) (cs.length + m) cap)) w') : wpList Try.prog ops Q (o :: rest) a w := by
  have hbb : (cs.length + m) * bytes ≤ 140737488355328 := by
    have : (cs.length + m) * bytes ≤ 100000000 * 8 := Nat.mul_le_mul hb hbyt
    omega
  have hn' : ∀ j u, news[j]? = some u → w.cell? ((⟨B, 0, none⟩ : Addr).add j) = some u := fun j u hu => by rw [Addr.add_lit, Nat.zero_add]; exact hnews j u hu
  have hgr : ∀ v' w' (row : Option Nat), w'.ownsRow w.heap.size e 1 v' (cs.length + m) (cs ++ news) → w.grownBy w' none → ∃ g cap, v' = .slice (some ⟨g, 0, none⟩) (cs.length + m) cap ∧ Grows base (.slice (some ⟨g, 0, none⟩) (cs.length + m) cap) (cs ++ news) w' ∧ w.grownBy w' row := by
    intro v' w' row r1 r2
    have hG' := (Grows.ofOwns r1).mono hbase
    rcases r1.2 with ⟨_, h0⟩ | ⟨g, cap, cur, rfl, _⟩
    · omega
    · exact ⟨g, cap, rfl, hG', ⟨r2.os, r2.tape, r2.output, r2.size, fun k hk _ => r2.block k hk (by simp)⟩⟩
  rcases hG with ⟨rfl, rfl⟩ | ⟨g, cap, rfl, h1, h2, h3, h4, h5⟩
  · refine wpList_append_grows w hgd s x t ho e i z 1 bytes ht hi hz hsize hby hzs (by omega) none 0 0 [] hs (fun _ => ⟨rfl, rfl⟩) rfl (fun b hb => by cases hb) ⟨B, 0, none⟩ m m news hx (by omega) hn' h1c (by omega) (by unfold maxLen; simp at hb; omega) (by simpa using hbb) ?_
    intro v' w' r1 r2
    obtain ⟨g, cap, rfl, q1, q2⟩ := hgr v' w' (Value.ownBlock (.slice none 0 0)) (by simpa using r1) r2
    exact h g cap w' q1 q2
  · refine wpList_append_arg w hgd s x t ho e i z 1 bytes ht hi hz hsize hby hzs (by omega) g 0 cs.length cap cs hs (by omega) (fun j u hu => by rw [Nat.zero_add]; exact h4 j u hu) ⟨B, 0, none⟩ m m news hx (by omega) hn' h1c (fun hr j hj => ?_) (by unfold maxLen; omega) hbb (fun hr => ?_) (fun hr v' w' r1 r2 => ?_)
    · rw [Nat.zero_add, Nat.mul_one]; exact h5 _ (by omega)
    · rw [Nat.zero_add, Nat.mul_one]
      refine h g cap _ (Or.inr ⟨g, cap, by rw [List.length_append, hl], h1, by rw [setCells_size]; exact h2, by rw [List.length_append]; omega, fun j u hu => ?_, fun j hj => ?_⟩) (setCells_grown g news _ w)
      · by_cases hjl : j < cs.length
        · rw [List.getElem?_append_left hjl] at hu
          rw [World.cell?_setCells_out g news cs.length w ⟨g, j, none⟩ (fun _ _ => Or.inl hjl)]; exact h4 j u hu
        · rw [List.getElem?_append_right (by omega)] at hu
          obtain ⟨hj2, hu2⟩ := List.getElem?_eq_some_iff.1 hu
          have := World.cell?_setCells_in g news cs.length w (fun q hq => (h5 _ (by omega)).1) (j - cs.length) hj2
          rw [show cs.length + (j - cs.length) = j by omega] at this
          rw [this, hu2]
      · rw [World.frozen?_setCells]
        refine ⟨?_, (h5 j hj).2⟩
        by_cases hin : cs.length ≤ j ∧ j < cs.length + news.length
        · have := World.cell?_setCells_in g news cs.length w (fun q hq => (h5 _ (by omega)).1) (j - cs.length) (by omega)
          rw [show cs.length + (j - cs.length) = j by omega] at this
          rw [this]; rfl
        · rw [World.cell?_setCells_out g news cs.length w ⟨g, j, none⟩ (fun _ _ => by simp only; omega)]; exact (h5 j hj).1
    · obtain ⟨g', cap', rfl, q1, q2⟩ := hgr v' w' (Value.ownBlock (.slice (some ⟨g, 0, none⟩) cs.length cap)) r1 r2
      exact h g' cap' w' q1 q2
/-- Bytes as cells; a number's low byte. -/
def bys (l : List UInt8) : List Value := l.map fun x => .int .u8 (x.toNat : Int)
theorem bys_append (a b : List UInt8) : bys (a ++ b) = bys a ++ bys b := by simp [bys]
theorem bys_len (a : List UInt8) : (bys a).length = a.length := by simp [bys]
def byteOf (x : Int) : UInt8 := UInt8.ofNat (x % 256).toNat
theorem byteOf_toNat (x : Int) : ((byteOf x).toNat : Int) = x % 256 := by
  unfold byteOf
  rw [UInt8.toNat_ofNat']
  omega
end Go.Proofs.Ytoaaklhpmhjhkaa
