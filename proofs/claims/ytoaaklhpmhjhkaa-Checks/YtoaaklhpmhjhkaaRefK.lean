/-
  Contracts of the reference's wrong and Check.
-/
import Derived.Test.YtoaaklhpmhjhkaaRefJ
namespace Go.Proofs.Ytoaaklhpmhjhkaa
open Go.RowKit

set_option maxHeartbeats 1000000 in
theorem wrong_any (s : ByteArray) (e a : Int) (w : World) (hm : s.size ≤ maxLen) (h : Rf.WrongIs s.data.toList e a) :
    Calls Try.prog 65 #[.string s] w fun e' w' => e' = .returned (.tuple #[.int .i64 e, .int .i64 a]) ∧ Below w.heap.size w w' := by
  unfold maxLen at hm
  rcases h with ⟨hl, rfl, rfl⟩ | ⟨hl, h⟩
  · have hl' : 40 < s.size := by simpa using hl
    clear hl
    go_enter Try.func65, Try.ntmps65
    go_wp2_with fail
    go_ret2
    exact ⟨rfl, Below.refl _ _⟩
  have hs : s.size ≤ 40 := by simpa using hl
  clear hl hm
  rcases h with ⟨hf, rfl, rfl⟩ | ⟨hf, h⟩
  · go_enter Try.func65, Try.ntmps65
    go_wp2_with fail
    refine (form_any s _ hs).mono ?_
    rintro e w1 ⟨rfl, hW1⟩
    go_wp2_with fail
    go_ret2
    exact ⟨rfl, hW1⟩
  rcases h with ⟨hd, rfl, rfl⟩ | ⟨hd, f, v, hv, h⟩
  · go_enter Try.func65, Try.ntmps65
    go_wp2_with fail
    refine (form_any s _ hs).mono ?_
    rintro e w1 ⟨rfl, hW1⟩
    go_wp2_with fail
    refine (deep_any s _ hs).mono ?_
    rintro e w2 ⟨rfl, hW2⟩
    go_wp2_with fail
    go_ret2
    exact ⟨rfl, hW1.trans (hW2.mono hW1.size)⟩
  rcases h with ⟨hv0, rfl, rfl⟩ | ⟨hv0, g, u, hu, h⟩
  · go_enter Try.func65, Try.ntmps65
    go_wp2_with fail
    refine (form_any s _ hs).mono ?_
    rintro e w1 ⟨rfl, hW1⟩
    go_wp2_with fail
    refine (deep_any s _ hs).mono ?_
    rintro e w2 ⟨rfl, hW2⟩
    have hW := hW1.trans (hW2.mono hW1.size)
    go_wp2_with fail
    refine (value_any s _ f _ hs hv).mono ?_
    rintro e w3 ⟨rfl, hW3⟩
    clear hv
    go_wp2_with fail
    go_ret2
    exact ⟨rfl, hW.trans (hW3.mono hW.size)⟩
  rcases h with ⟨hu0, rfl, rfl⟩ | ⟨hu0, rfl, rfl⟩
  all_goals
    go_enter Try.func65, Try.ntmps65
    go_wp2_with fail
    refine (form_any s _ hs).mono ?_
    rintro e w1 ⟨rfl, hW1⟩
    go_wp2_with fail
    refine (deep_any s _ hs).mono ?_
    rintro e w2 ⟨rfl, hW2⟩
    have hW := hW1.trans (hW2.mono hW1.size)
    go_wp2_with fail
    refine (value_any s _ f _ hs hv).mono ?_
    rintro e w3 ⟨rfl, hW3⟩
    clear hv
    have hX := hW.trans (hW3.mono hW.size)
    go_wp2_with fail
    refine (empty_any s _ g _ hs hu).mono ?_
    rintro e w4 ⟨rfl, hW4⟩
    clear hu
    go_wp2_with fail
    go_ret2
    exact ⟨rfl, hX.trans (hW4.mono hX.size)⟩

set_option maxHeartbeats 1000000 in
theorem refCheck_out (ad : Option Addr) (len cap : Nat) (w : World) (hl : len ≤ maxLen) (h : len = 0 ∨ 8 < len) :
    Calls Try.prog 36 #[.slice ad len cap] w fun e' w' => e' = .returned (.tuple #[.int .i64 1, .int .i64 0, .int .i64 0]) ∧ w' = w := by
  unfold maxLen at hl
  rcases h with h | h
  · subst h
    go_enter Try.func36, Try.ntmps36
    go_wp2_with fail
    go_ret3
    exact ⟨rfl, rfl⟩
  · have h0 : ((len : Int) == 0) = false := by simp; omega
    go_enter Try.func36, Try.ntmps36
    go_wp2_with fail
    go_ret3
    exact ⟨rfl, rfl⟩

/-- A row of n strings. -/
def SRow (b off : Nat) (f : Nat → ByteArray) (n : Nat) (w : World) : Prop := ∀ i, i < n → w.cell? ⟨b, off + i, none⟩ = some (.string (f i))
theorem SRow.below {b off : Nat} {f : Nat → ByteArray} {n : Nat} {w w' : World} {B : Nat} (h : SRow b off f n w) (hb : b < B) (hW : Below B w w') : SRow b off f n w' := fun i hi => by
  rw [hW.cell (p := ⟨b, off + i, none⟩) hb]; exact h i hi
/-- What the reference's Check answers of one to eight patterns. -/
def CheckIs (f : Nat → ByteArray) (n : Nat) (e r a : Int) : Prop :=
  (∃ i : Nat, i < n ∧ (∀ j, j < i → Rf.WrongIs (f j).data.toList 0 0) ∧ Rf.WrongIs (f i).data.toList e a ∧ e ≠ 0 ∧ r = i) ∨
  ((∀ j, j < n → Rf.WrongIs (f j).data.toList 0 0 ∧ (f j).size ≤ 40) ∧ r = 0 ∧ a = 0 ∧
    ∃ vs : Nat → Int, (∀ j, j < n → ∃ g, Rf.cnt g true (f j).data.toList = some (vs j)) ∧ e = if 96 < sumTo vs n then 7 else 0)

set_option maxHeartbeats 1000000 in
theorem refCheck_in (b off cap n : Nat) (f : Nat → ByteArray) (e r a : Int) (w : World) (h1 : 1 ≤ n) (h8 : n ≤ 8) (hb : b < w.heap.size) (hm : ∀ i, i < n → (f i).size ≤ maxLen) (hr : SRow b off f n w) (h : CheckIs f n e r a) :
    Calls Try.prog 36 #[.slice (some ⟨b, off, none⟩) n cap] w fun e' w' => e' = .returned (.tuple #[.int .i64 e, .int .i64 r, .int .i64 a]) ∧ Below w.heap.size w w' := by
  have hl0 : ((n : Int) == 0) = false := beq_eq_false_iff_ne.2 (by omega)
  have Hm : Hid (∀ i, i < n → (f i).size ≤ maxLen) := hm
  have Hr : Hid (SRow b off f n w) := hr
  clear hm hr
  rcases h with ⟨i0, hi0, hok, hwr, he, rfl⟩ | ⟨hok, rfl, rfl, vs, hvs, rfl⟩
  · have Hok : Hid (∀ j, j < i0 → Rf.WrongIs (f j).data.toList 0 0) := hok
    have Hwr : Hid (Rf.WrongIs (f i0).data.toList e a) := hwr
    have hne : (e == 0) = false := by simpa using he
    clear hok hwr he
    go_enter Try.func36, Try.ntmps36
    go_wp2_with fail
    go_loopw [5] (fun i w' => ∃ k : Nat, k ≤ i0 ∧ i = .int .i64 k ∧ Below w.heap.size w w') (fun i _ => 9 - (intOf i).toNat)
    case atStart => exact ⟨0, by omega, rfl, Below.refl _ _⟩
    case round =>
      obtain ⟨k, hk, rfl, hW⟩ := hrel
      have hcell := Hr.out.below hb hW k (by omega)
      by_cases hki : k = i0
      · subst hki
        go_wp2_with fail
        refine (wrong_any (f k) e a _ (Hm.out k hi0) Hwr.out).mono ?_
        rintro e' w1 ⟨rfl, hW1⟩
        go_wp2_with fail
        go_ret3
        exact ⟨rfl, hW.trans (hW1.mono hW.size)⟩
      · have hk' : k < i0 := by omega
        clear hki
        go_wp2_with fail
        refine (wrong_any (f k) 0 0 _ (Hm.out k (by omega)) (Hok.out k hk')).mono ?_
        rintro e' w1 ⟨rfl, hW1⟩
        go_wp2_with fail
        go_roundw
        case rel => exact ⟨k + 1, by omega, by go_num, hW.trans (hW1.mono hW.size)⟩
        case measure => simp [intOf]; omega
  · have Hok : Hid (∀ j, j < n → Rf.WrongIs (f j).data.toList 0 0 ∧ (f j).size ≤ 40) := hok
    have Hvs : Hid (∀ j, j < n → ∃ g, Rf.cnt g true (f j).data.toList = some (vs j)) := hvs
    have hbd : ∀ k, k ≤ n → 0 ≤ sumTo vs k ∧ sumTo vs k ≤ 9094947017729282 * k := by
      intro k
      induction k with
      | zero => intro _; simp [sumTo]
      | succ k ih =>
        intro hk
        have := ih (by omega)
        obtain ⟨g, hg⟩ := hvs k (by omega)
        have h2 := Rf.cnt_small hg (by have := (hok k (by omega)).2; simpa using this)
        simp only [sumTo]; omega
    have Hbd : Hid (∀ k, k ≤ n → 0 ≤ sumTo vs k ∧ sumTo vs k ≤ 9094947017729282 * k) := hbd
    clear hok hvs hbd
    go_enter Try.func36, Try.ntmps36
    go_wp2_with fail
    go_loopw [5] (fun i w' => ∃ k : Nat, k ≤ n ∧ i = .int .i64 k ∧ Below w.heap.size w w') (fun i _ => 9 - (intOf i).toNat)
    case atStart => exact ⟨0, by omega, rfl, Below.refl _ _⟩
    case round =>
      obtain ⟨k, hk, rfl, hW⟩ := hrel
      by_cases hkn : k < n
      · have hcell := Hr.out.below hb hW k hkn
        go_wp2_with fail
        refine (wrong_any (f k) 0 0 _ (Hm.out k hkn) (Hok.out k hkn).1).mono ?_
        rintro e' w1 ⟨rfl, hW1⟩
        go_wp2_with fail
        go_roundw
        case rel => exact ⟨k + 1, by omega, by go_num, hW.trans (hW1.mono hW.size)⟩
        case measure => simp [intOf]; omega
      · go_wp2_with fail
        go_loopw [8, 9] (fun x i w' => ∃ k : Nat, k ≤ n ∧ i = .int .i64 k ∧ x = .int .i64 (sumTo vs k) ∧ Below w.heap.size w w') (fun _ i _ => 9 - (intOf i).toNat)
        case atStart => exact ⟨0, by omega, rfl, rfl, hW⟩
        case round =>
          obtain ⟨k2, hk2, rfl, rfl, hW2⟩ := hrel
          have hb0 := Hbd.out k2 hk2
          by_cases hkn2 : k2 < n
          · have hcell := Hr.out.below hb hW2 k2 hkn2
            have hb1 := Hbd.out (k2 + 1) hkn2
            obtain ⟨g, hg⟩ := Hvs.out k2 hkn2
            have hg2 := Rf.cnt_small hg (by have := (Hok.out k2 hkn2).2; simpa using this)
            have HS : Hid (sumTo vs (k2 + 1) = sumTo vs k2 + vs k2) := rfl
            clear hb1
            go_wp2_with fail
            refine ((cnt_any g).1 (f k2) (vs k2) _ (Hok.out k2 hkn2).2 hg).mono ?_
            rintro e' w1 ⟨rfl, hW1⟩
            clear hg
            go_wp2_with fail
            go_roundw
            case rel => exact ⟨k2 + 1, by omega, by go_num, by rw [HS.out], hW2.trans (hW1.mono hW2.size)⟩
            case measure => simp [intOf]; omega
          · have hkk : k2 = n := by omega
            subst hkk
            by_cases h96 : 96 < sumTo vs k2
            · go_wp2_with fail
              go_ret3
              exact ⟨by first | rfl | rw [if_pos (by omega)], hW2⟩
            · go_wp2_with fail
              go_ret3
              exact ⟨by first | rfl | rw [if_neg (by omega)], hW2⟩
end Go.Proofs.Ytoaaklhpmhjhkaa
