/-
  Contracts of the program's writer.
-/
import Derived.Test.YtoaaklhpmhjhkaaEncG
import Derived.Deep.AppendLies
namespace Go.Proofs.Ytoaaklhpmhjhkaa
open Go.RowKit

/-- A writer at b: what it has written, at base or above (and not at b). -/
def Wr (b base : Nat) (l : List UInt8) (w : World) : Prop :=
  b < base ∧ w.frozen? ⟨b, 0, none⟩ = false ∧ ∃ v, w.cell? ⟨b, 0, none⟩ = some v ∧ Grows base v (bys l) w
/-- What a method of the writer leaves. -/
def WrPost (b base : Nat) (w : World) (l : List UInt8) (e : Ending) (w' : World) : Prop := e = .returned (.tuple #[]) ∧ Wr b base l w' ∧ Below b w w'

set_option maxRecDepth 100000 in
set_option maxHeartbeats 1000000 in
theorem putByte_any (b base : Nat) (l : List UInt8) (x : Int) (w : World) (hb : base ≤ w.heap.size) (hl : l.length ≤ 1000000) (h : Wr b base l w) :
    Calls Try.prog 92 #[.pointer (some ⟨b, 0, none⟩), .int .i64 x] w (WrPost b base w (l ++ [byteOf x])) := by
  obtain ⟨h0, h1, v, h2, h3⟩ := h
  obtain ⟨i, hi, hz0, hz1, hz2⟩ := eInfoU8
  have hG := h3.alloc (.cells #[.int .u8 (x % 256)] 5)
  have hnew : ∀ j u, [Value.int .u8 (x % 256)][j]? = some u → (w.alloc (.cells #[.int .u8 (x % 256)] 5)).cell? ⟨w.heap.size, j, none⟩ = some u := fun j u hu => by
    rw [World.cell?_alloc_new]; simpa using hu
  have hbl : b < w.heap.size := World.block_lt_of_cell? w _ h2
  have hne : some b ≠ v.ownBlock := fun e => by have := h3.ge b e.symm; omega
  have hc0 : (w.alloc (.cells #[.int .u8 (x % 256)] 5)).cell? ⟨b, 0, none⟩ = some v := by rw [World.cell?_alloc_lt _ _ _ (by exact hbl)]; exact h2
  have hf0 : (w.alloc (.cells #[.int .u8 (x % 256)] 5)).frozen? ⟨b, 0, none⟩ = false := by
    rw [World.frozen?_of_block (w := w) (a := ⟨b, 0, none⟩) (Below.heap_alloc w _ b hbl)]; exact h1
  have hW : Below b w (w.alloc (.cells #[.int .u8 (x % 256)] 5)) := (Below.refl _ _).alloc (by omega) _
  go_enter Try.func92, Try.ntmps92
  go_wp2_with (first | (at_builtin; refine wpList_grow (by rfl) _ _ 106 5 (by rfl) i (.int .u8 0) 1 Try.underlying106 hi hz0 hz1 hz2 rfl (by omega) base v (bys l) (by rfl) hG w.heap.size 1 [.int .u8 (x % 256)] (by rfl) rfl hnew (by simp [Value.oneCell']) (by rw [bys_len]; omega) (by simp; omega) (by omega) ?_; intro g cap w2 hG2 hgrow; have q1 := hgrow.cell hc0 hne; have q2 : w2.frozen? ⟨b, 0, none⟩ = false := (hgrow.frozen_far ⟨b, 0, none⟩ (by simp; omega) hne).trans hf0))
  go_end0
  refine ⟨rfl, ⟨h0, ?_, .slice (some ⟨g, 0, none⟩) ((bys l).length + 1) cap, ?_, ?_⟩, ?_⟩
  · rw [World.frozen?_setCell]; exact q2
  · exact World.cell?_setCell_same w2 ⟨b, 0, none⟩ _ (by rw [q1])
  · have he : bys (l ++ [byteOf x]) = bys l ++ [.int .u8 (x % 256)] := by rw [bys_append]; simp [bys, byteOf_toNat]
    rw [he]
    refine hG2.block (by simp [World.setCell]) (fun k _ hk => Below.heap_setCell w2 ⟨b, 0, none⟩ _ k (fun e => ?_))
    have := hG2.ge k hk
    have e' : k = b := e
    omega
  · refine (hW.grown hgrow (by simp; omega) (fun k hk => by have := h3.ge k hk; omega)).setCell (p := ⟨b, 0, none⟩) (Nat.le_refl _) _

set_option maxHeartbeats 1000000 in
theorem putWide_any (b base : Nat) (l : List UInt8) (x : Int) (w : World) (hb : base ≤ w.heap.size) (hl : l.length ≤ 900000) (h : Wr b base l w) :
    Calls Try.prog 93 #[.pointer (some ⟨b, 0, none⟩), .int .i64 x] w (WrPost b base w (l ++ [byteOf (x / 256), byteOf x])) := by
  have H1 : Hid (Calls Try.prog 92 #[.pointer (some ⟨b, 0, none⟩), .int .i64 (x / 256)] w (WrPost b base w (l ++ [byteOf (x / 256)]))) := putByte_any b base l (x / 256) w hb (by omega) h
  have H2 : Hid (∀ w', Wr b base (l ++ [byteOf (x / 256)]) w' → base ≤ w'.heap.size → Calls Try.prog 92 #[.pointer (some ⟨b, 0, none⟩), .int .i64 x] w' (WrPost b base w' ((l ++ [byteOf (x / 256)]) ++ [byteOf x]))) := fun w' h' hb' => putByte_any b base _ x w' hb' (by simp; omega) h'
  clear h
  go_enter Try.func93, Try.ntmps93
  go_wp2_with fail
  refine H1.out.mono ?_
  rintro e w1 ⟨rfl, h1, hW1⟩
  go_wp2_with fail
  refine (H2.out w1 h1 (Nat.le_trans hb hW1.size)).mono ?_
  rintro e w2 ⟨rfl, h2, hW2⟩
  go_wp2_with fail
  go_end0
  exact ⟨rfl, by simpa using h2, hW1.trans hW2⟩
/-- The low bytes of numbers. -/
def mapB (f : Nat → Int) (n : Nat) (more : Int) : List UInt8 := (List.range n).map fun i => byteOf (f i + more)
theorem mapB_succ (f : Nat → Int) (n : Nat) (more : Int) : mapB f (n + 1) more = mapB f n more ++ [byteOf (f n + more)] := by simp [mapB, List.range_succ]
theorem mapB_len (f : Nat → Int) (n : Nat) (more : Int) : (mapB f n more).length = n := by simp [mapB]
def basesB (f : Nat → Int) (n : Nat) (wide : Int) : List UInt8 := (List.range n).flatMap fun i => if wide = 2 then [byteOf (f i / 256), byteOf (f i)] else [byteOf (f i)]
theorem basesB_succ (f : Nat → Int) (n : Nat) (wide : Int) : basesB f (n + 1) wide = basesB f n wide ++ (if wide = 2 then [byteOf (f n / 256), byteOf (f n)] else [byteOf (f n)]) := by simp [basesB, List.range_succ]
theorem basesB_len (f : Nat → Int) (wide : Int) : ∀ n, (basesB f n wide).length ≤ 2 * n
  | 0 => by simp [basesB]
  | n + 1 => by
    rw [basesB_succ, List.length_append]
    have := basesB_len f wide n
    split <;> (simp; omega)
def cellsB (f g : Nat → Int) (n : Nat) : List UInt8 := (List.range n).flatMap fun i => [byteOf (f i + 1), byteOf (g i + 1)]
theorem cellsB_succ (f g : Nat → Int) (n : Nat) : cellsB f g (n + 1) = cellsB f g n ++ [byteOf (f n + 1), byteOf (g n + 1)] := by simp [cellsB, List.range_succ]
theorem cellsB_len (f g : Nat → Int) : ∀ n, (cellsB f g n).length = 2 * n
  | 0 => by simp [cellsB]
  | n + 1 => by rw [cellsB_succ, List.length_append, cellsB_len f g n]; simp; omega

set_option maxRecDepth 100000 in
set_option maxHeartbeats 1000000 in
theorem putList_any (b base : Nat) (l : List UInt8) (ad : Option Addr) (n cap : Nat) (f : Nat → Int) (more : Int) (w0 w : World) (hb : base ≤ w.heap.size) (hl : l.length + n ≤ 900000) (hm : 0 ≤ more ∧ more ≤ 1) (hf : ∀ i, i < n → -1 ≤ f i ∧ f i ≤ 1000000)
    (hb0 : w0.heap.size ≤ b) (hI : IL ad f n w0) (hW0 : Below w0.heap.size w0 w) (h : Wr b base l w) :
    Calls Try.prog 94 #[.pointer (some ⟨b, 0, none⟩), .slice ad n cap, .int .i64 more] w (WrPost b base w (l ++ mapB f n more)) := by
  have HI : Hid (IL ad f n w0) := hI
  have HF : Hid (∀ i, i < n → -1 ≤ f i ∧ f i ≤ 1000000) := hf
  clear hI hf
  go_enter Try.func94, Try.ntmps94
  go_wp2_with fail
  go_loopw [10] (fun i w' => ∃ k : Nat, k ≤ n ∧ i = .int .i64 k ∧ Wr b base (l ++ mapB f k more) w' ∧ Below b w w') (fun i _ => n - (intOf i).toNat)
  case atStart => exact ⟨0, by omega, rfl, by simpa [mapB] using h, Below.refl _ _⟩
  case round =>
    obtain ⟨k, hk, rfl, hWr, hW⟩ := hrel
    by_cases hlt : k < n
    · have hlt' : (k : Int) < (n : Int) := by omega
      obtain ⟨b1, o1, rfl, c1⟩ := HI.out.below (hW0.trans (hW.mono hb0)) k hlt
      have hfk := HF.out k hlt
      have HP : Hid (Calls Try.prog 92 #[.pointer (some ⟨b, 0, none⟩), .int .i64 (f k + more)] wr (WrPost b base wr (l ++ mapB f (k + 1) more))) := by
        have := putByte_any b base (l ++ mapB f k more) (f k + more) wr (Nat.le_trans hb hW.size) (by rw [List.length_append, mapB_len]; omega) hWr
        rw [List.append_assoc, ← mapB_succ] at this
        exact this
      generalize f k = x at *
      go_wp2_with fail
      refine HP.out.mono ?_
      rintro e w2 ⟨rfl, h2, hW2⟩
      go_wp2_with fail
      go_roundw
      case rel => exact ⟨k + 1, by omega, by go_num, h2, hW.trans hW2⟩
      case measure => simp [intOf]; omega
    · have hge : ¬ (k : Int) < (n : Int) := by omega
      have hkn : k = n := by omega
      subst hkn
      go_wp2_with fail
      go_end0
      exact ⟨rfl, hWr, hW⟩

set_option maxRecDepth 100000 in
set_option maxHeartbeats 1000000 in
theorem putBases_any (b base : Nat) (l : List UInt8) (ad : Option Addr) (n cap : Nat) (f : Nat → Int) (wide : Int) (w0 w : World) (hb : base ≤ w.heap.size) (hl : l.length + 2 * n ≤ 900000)
    (hb0 : w0.heap.size ≤ b) (hI : IL ad f n w0) (hW0 : Below w0.heap.size w0 w) (h : Wr b base l w) :
    Calls Try.prog 95 #[.pointer (some ⟨b, 0, none⟩), .slice ad n cap, .int .i64 wide] w (WrPost b base w (l ++ basesB f n wide)) := by
  have HI : Hid (IL ad f n w0) := hI
  clear hI
  go_enter Try.func95, Try.ntmps95
  go_wp2_with fail
  go_loopw [10] (fun i w' => ∃ k : Nat, k ≤ n ∧ i = .int .i64 k ∧ Wr b base (l ++ basesB f k wide) w' ∧ Below b w w') (fun i _ => n - (intOf i).toNat)
  case atStart => exact ⟨0, by omega, rfl, by simpa [basesB] using h, Below.refl _ _⟩
  case round =>
    obtain ⟨k, hk, rfl, hWr, hW⟩ := hrel
    by_cases hlt : k < n
    · have hlt' : (k : Int) < (n : Int) := by omega
      obtain ⟨b1, o1, rfl, c1⟩ := HI.out.below (hW0.trans (hW.mono hb0)) k hlt
      have hlen := basesB_len f wide k
      by_cases h2 : wide = 2
      · have HP : Hid (Calls Try.prog 93 #[.pointer (some ⟨b, 0, none⟩), .int .i64 (f k)] wr (WrPost b base wr (l ++ basesB f (k + 1) wide))) := by
          have := putWide_any b base (l ++ basesB f k wide) (f k) wr (Nat.le_trans hb hW.size) (by rw [List.length_append]; omega) hWr
          rw [List.append_assoc] at this
          rw [basesB_succ, if_pos h2]; exact this
        subst h2
        generalize f k = x at *
        go_wp2_with fail
        refine HP.out.mono ?_
        rintro e w2 ⟨rfl, h2, hW2⟩
        go_wp2_with fail
        go_roundw
        case rel => exact ⟨k + 1, by omega, by go_num, h2, hW.trans hW2⟩
        case measure => simp [intOf]; omega
      · have HP : Hid (Calls Try.prog 92 #[.pointer (some ⟨b, 0, none⟩), .int .i64 (f k)] wr (WrPost b base wr (l ++ basesB f (k + 1) wide))) := by
          have := putByte_any b base (l ++ basesB f k wide) (f k) wr (Nat.le_trans hb hW.size) (by rw [List.length_append]; omega) hWr
          rw [List.append_assoc] at this
          rw [basesB_succ, if_neg h2]; exact this
        have q1 : (wide == 2) = false := by simpa using h2
        generalize f k = x at *
        go_wp2_with fail
        refine HP.out.mono ?_
        rintro e w2 ⟨rfl, h2, hW2⟩
        go_wp2_with fail
        go_roundw
        case rel => exact ⟨k + 1, by omega, by go_num, h2, hW.trans hW2⟩
        case measure => simp [intOf]; omega
    · have hge : ¬ (k : Int) < (n : Int) := by omega
      have hkn : k = n := by omega
      subst hkn
      go_wp2_with fail
      go_end0
      exact ⟨rfl, hWr, hW⟩

set_option maxRecDepth 100000 in
set_option maxHeartbeats 1000000 in
theorem putCells_any (b base : Nat) (l : List UInt8) (ad ad' : Option Addr) (n cap cap' : Nat) (f f' : Nat → Int) (w0 w : World) (hb : base ≤ w.heap.size) (hl : l.length + 2 * n ≤ 900000) (hf : ∀ i, i < n → (-1 ≤ f i ∧ f i ≤ 1000000) ∧ (-1 ≤ f' i ∧ f' i ≤ 1000000))
    (hb0 : w0.heap.size ≤ b) (hI : IL ad f n w0) (hI' : IL ad' f' n w0) (hW0 : Below w0.heap.size w0 w) (h : Wr b base l w) :
    Calls Try.prog 96 #[.pointer (some ⟨b, 0, none⟩), .slice ad n cap, .slice ad' n cap'] w (WrPost b base w (l ++ cellsB f f' n)) := by
  have HI : Hid (IL ad f n w0) := hI
  have HI' : Hid (IL ad' f' n w0) := hI'
  have HF : Hid (∀ i, i < n → (-1 ≤ f i ∧ f i ≤ 1000000) ∧ (-1 ≤ f' i ∧ f' i ≤ 1000000)) := hf
  clear hI hI' hf
  go_enter Try.func96, Try.ntmps96
  go_wp2_with fail
  go_loopw [10] (fun i w' => ∃ k : Nat, k ≤ n ∧ i = .int .i64 k ∧ Wr b base (l ++ cellsB f f' k) w' ∧ Below b w w') (fun i _ => n - (intOf i).toNat)
  case atStart => exact ⟨0, by omega, rfl, by simpa [cellsB] using h, Below.refl _ _⟩
  case round =>
    obtain ⟨k, hk, rfl, hWr, hW⟩ := hrel
    by_cases hlt : k < n
    · have hlt' : (k : Int) < (n : Int) := by omega
      obtain ⟨b1, o1, rfl, c1⟩ := HI.out.below (hW0.trans (hW.mono hb0)) k hlt
      have hfk := HF.out k hlt
      have hlen := cellsB_len f f' k
      have HP : Hid (Calls Try.prog 92 #[.pointer (some ⟨b, 0, none⟩), .int .i64 (f k + 1)] wr (WrPost b base wr (l ++ cellsB f f' k ++ [byteOf (f k + 1)]))) :=
        putByte_any b base (l ++ cellsB f f' k) (f k + 1) wr (Nat.le_trans hb hW.size) (by rw [List.length_append]; omega) hWr
      have HP2 : Hid (∀ w', Wr b base (l ++ cellsB f f' k ++ [byteOf (f k + 1)]) w' → base ≤ w'.heap.size → Calls Try.prog 92 #[.pointer (some ⟨b, 0, none⟩), .int .i64 (f' k + 1)] w' (WrPost b base w' (l ++ cellsB f f' (k + 1)))) := fun w' h' hb' => by
        have := putByte_any b base (l ++ cellsB f f' k ++ [byteOf (f k + 1)]) (f' k + 1) w' hb' (by simp only [List.length_append, List.length_cons, List.length_nil]; omega) h'
        rw [List.append_assoc, List.append_assoc] at this
        rw [cellsB_succ]; exact this
      have HC : Hid (∀ w', Below b wr w' → ∃ b2 o2, ad' = some ⟨b2, o2, none⟩ ∧ w'.cell? ⟨b2, o2 + k, none⟩ = some (.int .i64 (f' k))) := fun w' h' => HI'.out.below (hW0.trans ((hW.trans h').mono hb0)) k hlt
      generalize f k = x at *
      generalize f' k = x' at *
      go_wp2_with fail
      refine HP.out.mono ?_
      rintro e w2 ⟨rfl, h2, hW2⟩
      obtain ⟨b2, o2, rfl, c2⟩ := HC.out w2 hW2
      go_wp2_with fail
      refine (HP2.out w2 h2 (Nat.le_trans (Nat.le_trans hb hW.size) hW2.size)).mono ?_
      rintro e w3 ⟨rfl, h3, hW3⟩
      go_wp2_with fail
      go_roundw
      case rel => exact ⟨k + 1, by omega, by go_num, h3, (hW.trans hW2).trans hW3⟩
      case measure => simp [intOf]; omega
    · have hge : ¬ (k : Int) < (n : Int) := by omega
      have hkn : k = n := by omega
      subst hkn
      go_wp2_with fail
      go_end0
      exact ⟨rfl, hWr, hW⟩
end Go.Proofs.Ytoaaklhpmhjhkaa
