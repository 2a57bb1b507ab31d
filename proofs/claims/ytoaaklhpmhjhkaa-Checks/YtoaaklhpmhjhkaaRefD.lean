/-
  Contracts of the reference's form and deep.
-/
import Derived.Test.YtoaaklhpmhjhkaaRefC
namespace Go.Proofs.Ytoaaklhpmhjhkaa
open Go.RowKit

theorem Rf.near_ite {o : Int} {p : Prop} [Decidable p] {x y : Rf.RS} (hx : o - 1 ≤ x.o ∧ x.o ≤ o + 1) (hy : o - 1 ≤ y.o ∧ y.o ≤ o + 1) : o - 1 ≤ (if p then x else y).o ∧ (if p then x else y).o ≤ o + 1 := by
  split
  · exact hx
  · exact hy
theorem Rf.near_inner (m bk o c m' : Int) : o - 1 ≤ (Rf.inner m bk o c m').o ∧ (Rf.inner m bk o c m').o ≤ o + 1 := by
  unfold Rf.inner
  exact Rf.near_ite ⟨by simp; omega, by simp; omega⟩ ⟨by simp [Rf.to]; omega, by simp [Rf.to]; omega⟩
theorem Rf.near_outside (m bk o c : Int) : o - 1 ≤ (Rf.outside m bk o c).o ∧ (Rf.outside m bk o c).o ≤ o + 1 := by
  unfold Rf.outside
  repeat' (refine Rf.near_ite ?_ ?_)
  all_goals (constructor <;> simp [Rf.to] <;> omega)
theorem Rf.near_rest (m bk o c : Int) : o - 1 ≤ (Rf.rest m bk o c).o ∧ (Rf.rest m bk o c).o ≤ o + 1 := by
  unfold Rf.rest
  repeat' (refine Rf.near_ite ?_ ?_)
  all_goals first | exact Rf.near_inner .. | exact Rf.near_outside .. | (constructor <;> simp [Rf.to] <;> omega)
/-- A byte turns the number of open parentheses by one at most. -/
theorem Rf.read_o (m bk o c : Int) : o - 1 ≤ (Rf.read m bk o c).o ∧ (Rf.read m bk o c).o ≤ o + 1 := by
  unfold Rf.read
  repeat' (refine Rf.near_ite ?_ ?_)
  all_goals first | exact Rf.near_rest .. | (constructor <;> simp [Rf.to] <;> omega)

set_option maxHeartbeats 1000000 in
theorem form_any (s : ByteArray) (w : World) (hs : s.size ≤ 40) :
    Calls Try.prog 83 #[.string s] w fun e w' => e = .returned (.int .i64 (Rf.form s.data.toList)) ∧ Below w.heap.size w w' := by
  go_enter Try.func83, Try.ntmps83
  go_wp2_with fail
  go_loopw [4] (fun i w' => ∃ (k : Nat) (m bk o : Int), k ≤ s.size ∧ i = .int .i64 k ∧ Rd w.heap.size m bk o w' ∧ Below w.heap.size w w' ∧ -k ≤ o ∧ o ≤ k ∧ Hid (Rf.form s.data.toList = Rf.formFrom m bk o k (s.data.toList.drop k))) (fun i _ => s.size - (intOf i).toNat)
  case atStart =>
    refine ⟨0, 0, 0, 0, Nat.zero_le _, rfl, ⟨?_, ?_, ?_, ?_, ?_, ?_⟩, (Below.refl _ _).alloc (Nat.le_refl _) _, by omega, by omega, rfl⟩ <;> go_simp
  case round =>
    obtain ⟨k, m, bk, o, hk, rfl, hR, hB, ho0, ho1, HS⟩ := hrel
    obtain ⟨c0, c1, c2, f0, f1, f2⟩ := id hR
    by_cases hlt : k < s.size
    · have HD : Hid (s.data.toList.drop k = s[k] :: s.data.toList.drop (k + 1)) := drop_cons s k hlt
      have hro := Rf.read_o m bk o (s[k].toNat)
      cases hok : (Rf.read m bk o (s[k].toNat)).ok
      · have Hok : Hid ((Rf.read m bk o (s[k].toNat)).ok = false) := hok
        clear hok
        go_wp2_with fail
        refine (read_any _ m bk o _ _ hR (by omega) (by omega)).mono ?_
        rintro e w1 ⟨rfl, hr, hb⟩
        rw [Hok.out]
        go_wp2_with fail
        go_ret
        refine ⟨ret_int ?_, hB.trans hb⟩
        rw [HS.out, HD.out]; simp [Rf.formFrom, Hok.out]
      · have Hok : Hid ((Rf.read m bk o (s[k].toNat)).ok = true) := hok
        clear hok
        go_wp2_with fail
        refine (read_any _ m bk o _ _ hR (by omega) (by omega)).mono ?_
        rintro e w1 ⟨rfl, hr, hb⟩
        rw [Hok.out]
        go_wp2_with fail
        go_roundw
        case rel => exact ⟨k + 1, _, _, _, by omega, by go_num, hr, hB.trans hb, by omega, by omega, by show _ = _; rw [HS.out, HD.out]; simp [Rf.formFrom, Hok.out]⟩
        case measure => simp [intOf]; omega
    · have hn : s.data.toList.drop k = [] := List.drop_eq_nil_of_le (by simp; omega)
      have HN : Hid (s.data.toList.drop k = []) := hn
      clear hn
      by_cases h0 : 0 < o
      · go_wp2_with fail
        go_ret
        refine ⟨ret_int ?_, hB⟩
        rw [HS.out, HN.out]; simp [Rf.formFrom, h0]; omega
      · by_cases h1 : 1 < m
        · go_wp2_with fail
          go_ret
          refine ⟨ret_int ?_, hB⟩
          rw [HS.out, HN.out]; simp [Rf.formFrom, h1]; omega
        · go_wp2_with fail
          go_ret
          refine ⟨ret_int ?_, hB⟩
          rw [HS.out, HN.out]; simp [Rf.formFrom]; omega

set_option maxHeartbeats 1000000 in
theorem deep_any (s : ByteArray) (w : World) (hs : s.size ≤ 40) :
    Calls Try.prog 84 #[.string s] w fun e w' => e = .returned (.int .i64 (Rf.deep s.data.toList)) ∧ Below w.heap.size w w' := by
  go_enter Try.func84, Try.ntmps84
  go_wp2_with fail
  go_loopw [4] (fun i w' => ∃ (k : Nat) (m bk o : Int), k ≤ s.size ∧ i = .int .i64 k ∧ Rd w.heap.size m bk o w' ∧ Below w.heap.size w w' ∧ -k ≤ o ∧ o ≤ k ∧ Hid (Rf.deep s.data.toList = Rf.deepFrom m bk o k (s.data.toList.drop k))) (fun i _ => s.size - (intOf i).toNat)
  case atStart =>
    refine ⟨0, 0, 0, 0, Nat.zero_le _, rfl, ⟨?_, ?_, ?_, ?_, ?_, ?_⟩, (Below.refl _ _).alloc (Nat.le_refl _) _, by omega, by omega, rfl⟩ <;> go_simp
  case round =>
    obtain ⟨k, m, bk, o, hk, rfl, hR, hB, ho0, ho1, HS⟩ := hrel
    obtain ⟨c0, c1, c2, f0, f1, f2⟩ := id hR
    by_cases hlt : k < s.size
    · have HD : Hid (s.data.toList.drop k = s[k] :: s.data.toList.drop (k + 1)) := drop_cons s k hlt
      have hro := Rf.read_o m bk o (s[k].toNat)
      by_cases h6 : 6 < (Rf.read m bk o (s[k].toNat)).o
      · go_wp2_with fail
        refine (read_any _ m bk o _ _ hR (by omega) (by omega)).mono ?_
        rintro e w1 ⟨rfl, hr, hb⟩
        have d2 := hr.c2
        go_wp2_with fail
        go_ret
        refine ⟨ret_int ?_, hB.trans hb⟩
        rw [HS.out, HD.out]; simp [Rf.deepFrom, h6]
      · go_wp2_with fail
        refine (read_any _ m bk o _ _ hR (by omega) (by omega)).mono ?_
        rintro e w1 ⟨rfl, hr, hb⟩
        have d2 := hr.c2
        go_wp2_with fail
        go_roundw
        case rel => exact ⟨k + 1, _, _, _, by omega, by go_num, hr, hB.trans hb, by omega, by omega, by show _ = _; rw [HS.out, HD.out]; simp only [Rf.deepFrom]; rw [if_neg (by omega)]⟩
        case measure => simp [intOf]; omega
    · have hn : s.data.toList.drop k = [] := List.drop_eq_nil_of_le (by simp; omega)
      have HN : Hid (s.data.toList.drop k = []) := hn
      clear hn
      go_wp2_with fail
      go_ret
      refine ⟨ret_int ?_, hB⟩
      rw [HS.out, HN.out]; rfl
end Go.Proofs.Ytoaaklhpmhjhkaa
