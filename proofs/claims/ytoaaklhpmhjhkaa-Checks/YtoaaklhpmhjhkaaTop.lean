/-
  The law: checked, Checks. The mathematics comes in as a hypothesis.
-/
import Derived.Test.YtoaaklhpmhjhkaaPartM
import Derived.Test.YtoaaklhpmhjhkaaLawA
namespace Go.Proofs.Ytoaaklhpmhjhkaa
open Go.RowKit

/-- The program and the reference answer the same. -/
def Agree : Prop := ∀ (f : Nat → ByteArray) (n : Nat), ∃ e r a, PCheckIs f n e r a ∧ CheckIs f n e r a
theorem sumTo_congr {u v : Nat → Int} : ∀ n, (∀ i, i < n → u i = v i) → sumTo u n = sumTo v n
  | 0, _ => rfl
  | n + 1, h => by simp only [sumTo]; rw [sumTo_congr n (fun i hi => h i (by omega)), h n (by omega)]
theorem PCheckIs.congr {f f' : Nat → ByteArray} {n : Nat} {e r a : Int} (h : PCheckIs f n e r a) (hf : ∀ i, i < n → f i = f' i) : PCheckIs f' n e r a := by
  rcases h with ⟨i, hi, h1, h2, h3, h4⟩ | ⟨h1, h2, h3, h4⟩
  · exact Or.inl ⟨i, hi, fun j hj => by rw [← hf j (by omega)]; exact h1 j hj, by rw [← hf i hi]; exact h2, h3, h4⟩
  · refine Or.inr ⟨fun j hj => by rw [← hf j hj]; exact h1 j hj, h2, h3, ?_⟩
    have hsum : sumTo (fun j => placesP (f j)) n = sumTo (fun j => placesP (f' j)) n := sumTo_congr n (fun i hi => by simp only [hf i hi])
    rw [h4, hsum]
theorem WRow.below {g : Nat} {f : Nat → ByteArray} {n : Nat} {w w' : World} {B : Nat} (h : WRow g f n w) (hg : g < B) (hW : Below B w w') : WRow g f n w' := fun i hi => by
  rw [hW.cell (p := ⟨g, i, none⟩) hg, hW.frozen (p := ⟨g, i, none⟩) hg]; exact h i hi
theorem WRow.srow {g : Nat} {f : Nat → ByteArray} {n m : Nat} {w : World} (h : WRow g f n w) (hm : m ≤ n) : SRow g 0 f m w := fun i hi => by
  rw [Nat.zero_add]; exact (h i (by omega)).1

/-- Both Checks, on the list that is handed in and on the caller's. -/
theorem both (hA : Agree) (ad : Option Addr) (n cap g : Nat) (f : Nat → ByteArray) (w1 : World) (hn : n + 3 ≤ 17592186044416) (hm : ∀ i, i < n → (f i).size ≤ maxLen)
    (hg : g < w1.heap.size) (hR : WRow g (handed f n) (n + 3) w1) (had : 1 ≤ n → ∃ b off, ad = some ⟨b, off, none⟩ ∧ b < w1.heap.size ∧ SRow b off f n w1) :
    ∃ e r a : Int, (Calls Try.prog 35 #[.slice (some ⟨g, 0, none⟩) n (n + 3)] w1 fun e' w' => e' = .returned (.tuple #[.int .i64 e, .int .i64 r, .int .i64 a]) ∧ Below w1.heap.size w1 w') ∧
      ∀ w2, Below w1.heap.size w1 w2 → Calls Try.prog 36 #[.slice ad n cap] w2 fun e' w' => e' = .returned (.tuple #[.int .i64 e, .int .i64 r, .int .i64 a]) ∧ Below w2.heap.size w2 w' := by
  by_cases hin : 1 ≤ n ∧ n ≤ 8
  · obtain ⟨e, r, a, hP, hC⟩ := hA f n
    obtain ⟨b, off, rfl, hb, hS⟩ := had hin.1
    refine ⟨e, r, a, ?_, fun w2 hW2 => ?_⟩
    · exact munchCheck_of _ e r a w1 (patCheck_in g 0 (n + 3) n (handed f n) e r a w1 hin.1 hin.2 hg (fun i hi => by simp only [handed, if_pos hi]; exact hm i hi) (hR.srow (by omega)) (hP.congr (fun i hi => by simp [handed, hi])))
    · exact refCheck_in b off cap n f e r a w2 hin.1 hin.2 (Nat.lt_of_lt_of_le hb hW2.size) hm (hS.below hb hW2) hC
  · have hout : n = 0 ∨ 8 < n := by omega
    refine ⟨1, 0, 0, ?_, fun w2 hW2 => ?_⟩
    · refine munchCheck_of _ 1 0 0 w1 ((patCheck_out _ n _ w1 (by unfold maxLen; omega) hout).mono ?_)
      rintro e' w' ⟨rfl, rfl⟩; exact ⟨rfl, Below.refl _ _⟩
    · refine (refCheck_out _ n _ w2 (by unfold maxLen; omega) hout).mono ?_
      rintro e' w' ⟨rfl, rfl⟩; exact ⟨rfl, Below.refl _ _⟩

set_option maxHeartbeats 1000000 in
theorem checked_any (hA : Agree) (ad : Option Addr) (n cap : Nat) (f : Nat → ByteArray) (w : World) (hn : n + 3 ≤ 17592186044416) (hm : ∀ i, i < n → (f i).size ≤ maxLen)
    (had : 1 ≤ n → ∃ b off, ad = some ⟨b, off, none⟩ ∧ b < w.heap.size ∧ SRow b off f n w) :
    Calls Try.prog 11 #[.slice ad n cap] w fun e w' => e = .returned (.bool true) ∧ Below w.heap.size w w' := by
  have HH : Hid (Calls Try.prog 34 #[.slice ad n cap] w fun e w' => e = .returned (.slice (some ⟨w.heap.size, 0, none⟩) n (n + 3)) ∧ WRow w.heap.size (handed f n) (n + 3) w' ∧ Below w.heap.size w w') := by
    show Calls _ _ _ _ _
    by_cases h1 : 1 ≤ n
    · obtain ⟨b, off, rfl, hb, hS⟩ := had h1
      exact handed_some b off n cap f w hn hb hS
    · have : n = 0 := by omega
      subst this
      exact handed_none ad cap f w
  have Had : Hid (1 ≤ n → ∃ b off, ad = some ⟨b, off, none⟩ ∧ b < w.heap.size ∧ SRow b off f n w) := had
  have Hm : Hid (∀ i, i < n → (f i).size ≤ maxLen) := hm
  clear had hm
  go_enter Try.func11, Try.ntmps11
  go_wp2_with fail
  refine HH.out.mono ?_
  rintro e w1 ⟨rfl, hR, hW1⟩
  have hg : w.heap.size < w1.heap.size := World.block_lt_of_cell? w1 _ (hR 0 (by omega)).1
  obtain ⟨e, r, a, hP, hC⟩ := both hA ad n cap w.heap.size f w1 hn Hm.out hg hR (fun h => by
    obtain ⟨b, off, h1, h2, h3⟩ := Had.out h
    exact ⟨b, off, h1, Nat.lt_of_lt_of_le h2 hW1.size, h3.below h2 hW1⟩)
  have HP : Hid (Calls Try.prog 35 #[.slice (some ⟨w.heap.size, 0, none⟩) n (n + 3)] w1 fun e' w' => e' = .returned (.tuple #[.int .i64 e, .int .i64 r, .int .i64 a]) ∧ Below w1.heap.size w1 w') := hP
  have HC : Hid (∀ w2, Below w1.heap.size w1 w2 → Calls Try.prog 36 #[.slice ad n cap] w2 fun e' w' => e' = .returned (.tuple #[.int .i64 e, .int .i64 r, .int .i64 a]) ∧ Below w2.heap.size w2 w') := hC
  have HR : Hid (WRow w.heap.size (handed f n) (n + 3) w1) := hR
  clear hP hC hR HH
  go_wp2_with fail
  refine HP.out.mono ?_
  rintro e' w2 ⟨rfl, hW2⟩
  go_wp2_with fail
  refine (HC.out w2 hW2).mono ?_
  rintro e' w3 ⟨rfl, hW3⟩
  go_wp2_with fail
  have hW13 := hW2.trans (hW3.mono hW2.size)
  refine (still_any w.heap.size n cap ad f w3 hn (HR.out.below hg hW13) (fun i hi => by
    obtain ⟨b, off, h1, h2, h3⟩ := Had.out (by omega)
    exact ⟨b, off, h1, ((h3.below h2 hW1).below (Nat.lt_of_lt_of_le h2 hW1.size) hW13) i hi⟩)).mono ?_
  rintro e' w4 ⟨rfl, rfl⟩
  go_wp2_with fail
  go_ret
  exact ⟨ret_bool (by simp), hW1.trans (hW13.mono hW1.size)⟩

set_option maxHeartbeats 1000000 in
theorem Checks_any (hA : Agree) (ad : Option Addr) (n cap : Nat) (f : Nat → ByteArray) (w : World) (hn : n + 3 ≤ 17592186044416) (hm : ∀ i, i < n → (f i).size ≤ maxLen)
    (had : 1 ≤ n → ∃ b off, ad = some ⟨b, off, none⟩ ∧ b < w.heap.size ∧ SRow b off f n w) :
    Calls Try.prog 3 #[.slice ad n cap] w fun e w' => e = .returned (.bool true) ∧ Below w.heap.size w w' := by
  have H : Hid (Calls Try.prog 11 #[.slice ad n cap] w fun e w' => e = .returned (.bool true) ∧ Below w.heap.size w w') := checked_any hA ad n cap f w hn hm had
  clear had hm hn
  go_enter Try.func3, Try.ntmps3
  go_wp2_with fail
  refine H.out.mono ?_
  rintro e' w1 ⟨rfl, hW⟩
  go_wp2_with fail
  go_ret
  exact ⟨rfl, hW⟩
end Go.Proofs.Ytoaaklhpmhjhkaa
