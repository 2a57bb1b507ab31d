/-
  The program's Cut.
-/
import Derived.Test.YtoaaklhpmhjhkabScA
import Derived.Deep.AppendLies
namespace Go.Proofs.Ytoaaklhpmhjhkab
open Go.RowKit

/-- The tokens from i on. -/
def tks (T : Tb) (x : ByteArray) : Nat → Nat → List (Int × Int × Int)
  | 0, _ => []
  | u + 1, i => if i < x.size then ((tkAt T x i).1, (i : Int), (tkAt T x i).2) :: tks T x u (i + (tkAt T x i).2.toNat) else []
theorem tks_end {T : Tb} {x : ByteArray} {u i : Nat} (h : x.size ≤ i) : tks T x u i = [] := by
  cases u
  · rfl
  · rw [tks, if_neg (by omega)]
theorem tks_step {T : Tb} {x : ByteArray} {u i n : Nat} {r : Int} (h : i < x.size) (e : tkAt T x i = (r, (n : Int))) : tks T x (u + 1) i = (r, (i : Int), (n : Int)) :: tks T x u (i + n) := by
  rw [tks, if_pos h, e]; simp
/-- All tokens of a text. -/
def toks (T : Tb) (x : ByteArray) : List (Int × Int × Int) := if 2000 < x.size then [] else tks T x x.size 0
/-- Tokens as cells. -/
def tkC (t : Int × Int × Int) : List Value := [.int .i64 t.1, .int .i64 t.2.1, .int .i64 t.2.2]
def flatK (l : List (Int × Int × Int)) : List Value := l.flatMap tkC
theorem flatK_append (a b : List (Int × Int × Int)) : flatK (a ++ b) = flatK a ++ flatK b := by simp [flatK]
theorem flatK_one (a : Int × Int × Int) : flatK [a] = tkC a := by simp [flatK]
theorem flatK_len (l : List (Int × Int × Int)) : (flatK l).length = l.length * 3 := by
  induction l with
  | nil => rfl
  | cons a l ih => rw [show flatK (a :: l) = tkC a ++ flatK l from by simp [flatK], List.length_append, ih]; simp [tkC]; omega
/-- Tokens in memory. -/
def OwnK (base : Nat) (v : Value) (l : List (Int × Int × Int)) (w : World) : Prop := w.ownsRow base 49 3 v l.length (flatK l)
theorem OwnK.below {base : Nat} {v : Value} {l : List (Int × Int × Int)} {w w' : World} (h : OwnK base v l w) (hW : Below w.heap.size w w') : OwnK base v l w' := eOwns_below h hW
theorem OwnK.ge {base : Nat} {v : Value} {l : List (Int × Int × Int)} {w : World} (h : OwnK base v l w) : ∀ k, v.ownBlock = some k → base ≤ k := fun k hk => (h.lt k hk).1
theorem OwnK.nil (base : Nat) (w : World) : OwnK base (.slice none 0 0) [] w := ⟨rfl, Or.inl ⟨rfl, rfl⟩⟩
theorem info_tok2 : ∃ i, Try.prog.info? 49 = some i ∧ i.zero = some (.agg #[.int .i64 0, .int .i64 0, .int .i64 0]) ∧ i.size = 3 ∧ i.bytes = 24 := by
  have h : (Try.prog.info? 49).isSome = true := by kernel_rfl
  obtain ⟨i, hi⟩ := Option.isSome_iff_exists.1 h
  refine ⟨i, hi, ?_, ?_, ?_⟩
  · have : ((Try.prog.info? 49).bind (·.zero)) = some (.agg #[.int .i64 0, .int .i64 0, .int .i64 0]) := by kernel_rfl
    rw [hi] at this; simpa using this
  · have : ((Try.prog.info? 49).map (·.size)) = some 3 := by kernel_rfl
    rw [hi] at this; simpa using this
  · have : ((Try.prog.info? 49).map (·.bytes)) = some 24 := by kernel_rfl
    rw [hi] at this; simpa using this
theorem wpList_append_tok {w : World} {ops : Array Oper} {rest : List Oper} {o : Oper} {a : Act} {Q : Exit → Act → World → Prop} (hgd : o.guard = none) (s x : Operand)
    (ho : o.op = .call { callee := .builtin .append, args := #[s, x], argTypes := #[45, 45] }) (base : Nat)
    (v : Value) (l : List (Int × Int × Int)) (hs : a.eval s = v) (hown : OwnK base v l w) (hn : l.length ≤ 100000)
    (B : Nat) (t : Int × Int × Int) (hx : a.eval x = .slice (some ⟨B, 0, none⟩) 1 1) (hnews : ∀ j u, (tkC t)[j]? = some u → w.cell? ⟨B, j, none⟩ = some u) (hbase : base ≤ w.heap.size)
    (h : ∀ g cap w', OwnK base (.slice (some ⟨g, 0, none⟩) (l.length + 1) cap) (l ++ [t]) w' → w.grownBy w' v.ownBlock → wpList Try.prog ops Q rest (a.put o.dst (.slice (some ⟨g, 0, none⟩) (l.length + 1) cap)) w') : wpList Try.prog ops Q (o :: rest) a w := by
  obtain ⟨i, hi, hz0, hz1, hz2⟩ := info_tok2
  refine wpList_append_lies w hgd s x 45 ho base 49 i (.agg #[.int .i64 0, .int .i64 0, .int .i64 0]) 3 24 Try.underlying45 hi hz0 hz1 hz2 (by simp [Value.cells]) (by omega) v l.length (flatK l) hs hown ⟨B, 0, none⟩ 1 1 (tkC t) hx (by simp [tkC]) (fun j u hu => by rw [Addr.add_mid, Nat.zero_add]; exact hnews j u hu) (by simp [tkC, Value.oneCell']) (by omega) (by unfold maxLen; omega) (by omega) hbase _ rfl ?_
  intro g cap w' h1 h2 h3 h4
  refine h g cap w' ?_ h2
  unfold OwnK
  rw [flatK_append, flatK_one, List.length_append]
  exact h1
/-- The error of a text. -/
def scErr (x : ByteArray) : Int := if 2000 < x.size then 2 else 0
/-- What a cut leaves. -/
def ScanPost (T : Tb) (x : ByteArray) (w : World) (e : Ending) (w' : World) : Prop :=
  ∃ v, e = .returned (.tuple #[v, .int .i64 (scErr x)]) ∧ OwnK w.heap.size v (toks T x) w' ∧ Below w.heap.size w w'

set_option maxRecDepth 100000 in
set_option maxHeartbeats 4000000 in
theorem cut_any (b : Nat) (T : Tb) (A : TbA) (x : ByteArray) (w : World) (hS : Snd T) (hA : TbAt b T A w) (hI : TbIn T A w) (hx : x.size ≤ 140737488355328) :
    Calls Try.prog 34 #[.pointer (some ⟨b, 0, none⟩), .string x] w (ScanPost T x w) := by
  by_cases hb : 2000 < x.size
  · have hb' : (2000 : Int) < (x.size : Int) := by omega
    have HR : Hid (toks T x = []) := by show _ = _; rw [toks, if_pos hb]
    have HE : Hid (scErr x = 2) := by show _ = _; rw [scErr, if_pos hb]
    clear hA hI hS hb
    go_enter Try.func34, Try.ntmps34
    go_wp2_with fail
    go_ret2
    refine ⟨.slice none 0 0, ?_, ?_, Below.refl _ _⟩
    · rw [HE.out]; rfl
    · rw [HR.out]; exact OwnK.nil _ _
  have hb' : ¬ (2000 : Int) < (x.size : Int) := by omega
  have hz := zero_tok
  obtain ⟨R, hR⟩ : ∃ R, R = toks T x := ⟨_, rfl⟩
  have HRR : Hid (R = toks T x) := hR
  rw [toks, if_neg hb] at hR
  have HR : Hid (R = [] ++ tks T x x.size 0) := hR
  have HE : Hid (scErr x = 0) := by show _ = _; rw [scErr, if_neg hb]
  clear hR
  have H1 : Hid (∀ w' (i : Nat), Below w.heap.size w w' → i < x.size → Calls Try.prog 56 #[.pointer (some ⟨b, 0, none⟩), .string x, .int .i64 i] w' fun e w'' => e = .returned (.agg #[.int .i64 (tkAt T x i).1, .int .i64 i, .int .i64 (tkAt T x i).2]) ∧ Below w'.heap.size w' w'') := fun w' i h' hi => tokenAt_any b T A x i w' hS (hA.below h') (hI.below h') (by omega) hi
  clear hA hI hS
  go_enter Try.func34, Try.ntmps34
  go_wp2_with fail
  go_loopw [6, 7] (fun v av w' => ∃ (u i : Nat) (ls : List (Int × Int × Int)), av = .int .i64 i ∧ i ≤ x.size ∧ x.size ≤ u + i ∧ ls.length ≤ i ∧ OwnK w.heap.size v ls w' ∧ Below w.heap.size w w' ∧ Hid (R = ls ++ tks T x u i)) (fun _ av _ => x.size - (intOf av).toNat)
  case atStart => exact ⟨x.size, 0, [], rfl, by omega, by omega, by simp, OwnK.nil _ _, Below.refl _ _, HR⟩
  case round =>
    clear HR
    obtain ⟨u, i, ls, rfl, hi, hu, hls, hO, hB, HR⟩ := hrel
    by_cases hlt : i < x.size
    · have hlt' : (i : Int) < (x.size : Int) := by omega
      rcases u with _ | u
      · omega
      obtain ⟨n1, n2⟩ := tkAt_bd T x i hlt
      obtain ⟨r, ln, hrl⟩ : ∃ (r : Int) (ln : Nat), tkAt T x i = (r, (ln : Int)) := ⟨(tkAt T x i).1, (tkAt T x i).2.toNat, by ext <;> simp; omega⟩
      have HC := H1.out wr i hB hlt
      rw [hrl] at HC n1 n2
      have HC1 : Hid (Calls Try.prog 56 #[.pointer (some ⟨b, 0, none⟩), .string x, .int .i64 i] wr fun e w'' => e = .returned (.agg #[.int .i64 r, .int .i64 i, .int .i64 (ln : Int)]) ∧ Below wr.heap.size wr w'') := HC
      have HR1 : Hid (R = (ls ++ [(r, (i : Int), (ln : Int))]) ++ tks T x u (i + ln)) := by show _ = _; rw [HR.out, tks_step hlt hrl]; simp
      clear HC HR hrl
      simp only at n1 n2
      go_wp2_with fail
      refine HC1.out.mono ?_
      rintro e w1 ⟨rfl, hW1⟩
      have hO1 := hO.below hW1
      have hB1 := hB.trans (hW1.mono hB.size)
      have hlt1 : ∀ k, u6.ownBlock = some k → k < w1.heap.size := fun k hk => (hO1.lt k hk).2
      clear hO hB hW1 HC1
      obtain ⟨W3, hW3⟩ : ∃ W, W = (w1.alloc (.cells #[.int .i64 r, .int .i64 i, .int .i64 (ln : Int)] 49)).alloc (.cells #[.int .i64 r, .int .i64 i, .int .i64 (ln : Int)] 49) := ⟨_, rfl⟩
      have hs1 : (w1.alloc (.cells #[.int .i64 r, .int .i64 i, .int .i64 (ln : Int)] 49)).heap.size = w1.heap.size + 1 := by simp
      have x3 : Below w1.heap.size w1 W3 := by rw [hW3]; exact (bel_box w1 _).trans ((bel_box _ _).mono (by simp))
      have hO3 := hO1.below x3
      have hB3 := hB1.trans (x3.mono hB1.size)
      have hnews : ∀ j v, (tkC (r, (i : Int), (ln : Int)))[j]? = some v → W3.cell? ⟨w1.heap.size + 1, j, none⟩ = some v := fun j v hv => by
        rw [hW3, ← hs1]; exact ((TC.boxed _ [.int .i64 r, .int .i64 i, .int .i64 (ln : Int)] _) j v hv).1
      have hc2 : W3.cell? ⟨w1.heap.size, 2, none⟩ = some (.int .i64 (ln : Int)) := by
        have := ((TC.boxed w1 [.int .i64 r, .int .i64 i, .int .i64 (ln : Int)] 49).below (bel_box _ (.cells #[.int .i64 r, .int .i64 i, .int .i64 (ln : Int)] 49))) 2 _ rfl
        rw [hW3]; exact this.1
      have HK : Hid (∀ w5, W3.grownBy w5 u6.ownBlock → w5.cell? ⟨w1.heap.size, 2, none⟩ = some (.int .i64 (ln : Int))) := fun w5 hg => by
        rw [World.cell?_of_block (w := W3) (a := ⟨w1.heap.size, 2, none⟩) (hg.block w1.heap.size (World.block_lt_of_cell? W3 _ hc2) (fun e => by have := hlt1 _ e.symm; omega))]
        exact hc2
      have HW3 : Hid (W3 = (w1.alloc (.cells #[.int .i64 r, .int .i64 i, .int .i64 (ln : Int)] 49)).alloc (.cells #[.int .i64 r, .int .i64 i, .int .i64 (ln : Int)] 49)) := hW3
      have hbw : w.heap.size ≤ W3.heap.size := hB3.size
      have hge3 := hO3.ge
      clear hW3 hs1 x3 hO1 hB1 hc2 hlt1
      go_wp2_with (first | (at_builtin; rw [← HW3.out]; refine wpList_append_tok (by rfl) _ _ (by rfl) w.heap.size u6 ls (by rfl) hO3 (by omega) (w1.heap.size + 1) (r, (i : Int), (ln : Int)) (by rfl) hnews hbw ?_; intro g cap w5 hO5 hgrow; have k2 := HK.out w5 hgrow))
      go_roundw
      case rel => exact ⟨u, i + ln, ls ++ [(r, (i : Int), (ln : Int))], by go_num, by omega, by omega, by simp; omega, by simpa using hO5, hB3.grown hgrow hbw hge3, HR1⟩
      case measure => simp [intOf]; omega
    · have hge : ¬ (i : Int) < (x.size : Int) := by omega
      have HR1 : Hid (R = ls) := by show _ = _; rw [HR.out, tks_end (by omega)]; simp
      clear HR
      go_wp2_with fail
      go_ret2
      refine ⟨u6, ?_, ?_, hB⟩
      · rw [HE.out]; rfl
      · rw [← HRR.out, HR1.out]; exact hO

set_option maxHeartbeats 1000000 in
theorem xScan_any (b : Nat) (T : Tb) (A : TbA) (x : ByteArray) (w : World) (hS : Snd T) (hA : TbAt b T A w) (hI : TbIn T A w) (hx : x.size ≤ 140737488355328) :
    Calls Try.prog 17 #[.pointer (some ⟨b, 0, none⟩), .string x] w (ScanPost T x w) := by
  have H : Hid (Calls Try.prog 34 #[.pointer (some ⟨b, 0, none⟩), .string x] w (ScanPost T x w)) := cut_any b T A x w hS hA hI hx
  have c0 := hA.c0
  clear hA hI hS
  go_enter Try.func17, Try.ntmps17
  go_wp2_with fail
  refine H.out.mono ?_
  rintro e w1 ⟨v, rfl, h1, h2⟩
  go_wp2_with fail
  go_ret2
  exact ⟨v, rfl, h1, h2⟩
end Go.Proofs.Ytoaaklhpmhjhkab
