/-
  Contracts of the program's canBe, size, isMagic, hasSum.
-/
import Derived.Test.YtoaaklhpmhjhkaaLdB
namespace Go.Proofs.Ytoaaklhpmhjhkaa
open Go.RowKit

/-- There are files of such a head. -/
def HeadOK (r st ce wd : Int) : Prop := (1 ≤ r ∧ r ≤ 8) ∧ (1 ≤ st ∧ st ≤ 96) ∧ ce ≤ 24576 ∧ (wd = 1 ∨ wd = 2)

set_option maxRecDepth 100000 in
set_option maxHeartbeats 1000000 in
theorem canBe_any (r st ce wd : Int) (w : World) :
    Calls Try.prog 101 #[.agg #[.int .i64 r, .int .i64 st, .int .i64 ce, .int .i64 wd]] w (BPostB (HeadOK r st ce wd) w) := by
  have hB := bel_box w (.cells #[.int .i64 r, .int .i64 st, .int .i64 ce, .int .i64 wd] 127)
  by_cases h1 : r < 1
  · have HN : Hid (¬ HeadOK r st ce wd) := fun h => by have := h.1; omega
    go_enter Try.func101, Try.ntmps101
    go_wp2_with fail
    go_ret
    exact BPostB.f HN.out hB
  by_cases h2 : 8 < r
  · have HN : Hid (¬ HeadOK r st ce wd) := fun h => by have := h.1; omega
    go_enter Try.func101, Try.ntmps101
    go_wp2_with fail
    go_ret
    exact BPostB.f HN.out hB
  by_cases h3 : st < 1
  · have HN : Hid (¬ HeadOK r st ce wd) := fun h => by have := h.2.1; omega
    go_enter Try.func101, Try.ntmps101
    go_wp2_with fail
    go_ret
    exact BPostB.f HN.out hB
  by_cases h4 : 96 < st
  · have HN : Hid (¬ HeadOK r st ce wd) := fun h => by have := h.2.1; omega
    go_enter Try.func101, Try.ntmps101
    go_wp2_with fail
    go_ret
    exact BPostB.f HN.out hB
  by_cases h5 : ce ≤ 24576
  case neg =>
    have HN : Hid (¬ HeadOK r st ce wd) := fun h => h5 h.2.2.1
    go_enter Try.func101, Try.ntmps101
    go_wp2_with fail
    go_ret
    exact BPostB.f HN.out hB
  by_cases h6 : wd = 1
  · have HT : Hid (HeadOK r st ce wd) := ⟨by omega, by omega, h5, Or.inl h6⟩
    subst h6
    go_enter Try.func101, Try.ntmps101
    go_wp2_with fail
    go_ret
    exact BPostB.t HT.out hB
  have q6 : (wd == 1) = false := by simpa using h6
  by_cases h7 : wd = 2
  · have HT : Hid (HeadOK r st ce wd) := ⟨by omega, by omega, h5, Or.inr h7⟩
    subst h7
    go_enter Try.func101, Try.ntmps101
    go_wp2_with fail
    go_ret
    exact BPostB.t HT.out hB
  · have HN : Hid (¬ HeadOK r st ce wd) := fun h => by have := h.2.2.2; omega
    have q7 : (wd == 2) = false := by simpa using h7
    clear h6 h7
    go_enter Try.func101, Try.ntmps101
    go_wp2_with fail
    go_ret
    exact BPostB.f HN.out hB

set_option maxRecDepth 100000 in
set_option maxHeartbeats 1000000 in
theorem size_any (r : Int) (st ce wd : Nat) (w : World) (h1 : st ≤ 96) (h2 : ce ≤ 24576) (h3 : wd = 1 ∨ wd = 2) :
    Calls Try.prog 102 #[.agg #[.int .i64 r, .int .i64 st, .int .i64 ce, .int .i64 wd]] w fun e w' => e = .returned (.int .i64 ((266 + st * (wd + 2) + ce * 2 + 4 : Nat) : Int)) ∧ Below w.heap.size w w' := by
  have hB := bel_box w (.cells #[.int .i64 r, .int .i64 st, .int .i64 ce, .int .i64 wd] 127)
  rcases h3 with rfl | rfl
  · go_enter Try.func102, Try.ntmps102
    go_wp2_with fail
    go_ret
    exact ⟨ret_int (by simp), hB⟩
  · go_enter Try.func102, Try.ntmps102
    go_wp2_with fail
    go_ret
    exact ⟨ret_int (by simp), hB⟩

/-- It begins as a file must. -/
def magicB (s : ByteArray) : Bool := decide (4 ≤ s.size) && ((s.extract 0 4).toList == [77, 85, 78, 49])
set_option maxRecDepth 100000 in
set_option maxHeartbeats 1000000 in
theorem isMagic_any (s : ByteArray) (w : World) (hs : s.size ≤ maxLen) :
    Calls Try.prog 99 #[.string s] w fun e w' => e = .returned (.bool (magicB s)) ∧ w' = w := by
  unfold maxLen at hs
  by_cases h4 : 4 ≤ s.size
  · have h4' : (4 : Int) ≤ (s.size : Int) := by omega
    have HM : Hid (magicB s = ((s.extract 0 4).toList == [77, 85, 78, 49])) := by show _ = _; rw [magicB, decide_eq_true h4]; rfl
    go_enter Try.func99, Try.ntmps99
    go_wp2_with fail
    go_ret
    exact ⟨ret_bool HM.out.symm, rfl⟩
  · have h4' : ¬ (4 : Int) ≤ (s.size : Int) := by omega
    have HM : Hid (magicB s = false) := by show _ = _; rw [magicB, decide_eq_false h4]; rfl
    go_enter Try.func99, Try.ntmps99
    go_wp2_with fail
    go_ret
    exact ⟨ret_bool HM.out.symm, rfl⟩

/-- Its last four bytes are the sum of those ahead. -/
def sumB (s : ByteArray) : Bool := (s.extract (s.size - 4) s.size).toList == (⟨(sumL (s.extract 0 (s.size - 4)).data.toList).toArray⟩ : ByteArray).toList
set_option maxRecDepth 100000 in
set_option maxHeartbeats 1000000 in
theorem hasSum_any (s : ByteArray) (w : World) (h4 : 4 ≤ s.size) (hs : s.size ≤ 1000000) :
    Calls Try.prog 103 #[.string s] w fun e w' => e = .returned (.bool (sumB s)) ∧ Below w.heap.size w w' := by
  obtain ⟨n, hn⟩ : ∃ n, s.size = n + 4 := ⟨s.size - 4, by omega⟩
  have i1 : (s.size : Int) - 4 = (n : Int) := by omega
  have i2 : ¬ (n : Int) < 0 := by omega
  have i3 : (n : Int) ≤ (s.size : Int) := by omega
  obtain ⟨z, hz⟩ : ∃ z : ByteArray, z = ⟨(sumL (s.extract 0 n).data.toList).toArray⟩ := ⟨_, rfl⟩
  have HS : Hid (∀ w', w'.heap = w.heap → Calls Try.prog 97 #[.string (s.extract 0 n)] w' fun e w'' => e = .returned (.string z) ∧ Below w'.heap.size w' w'') := fun w' _ => by rw [hz]; exact seal_any (s.extract 0 n) w' (by simp; omega)
  have Hz : Hid (z = ⟨(sumL (s.extract 0 n).data.toList).toArray⟩) := hz
  have Hn : Hid (s.size = n + 4) := hn
  clear hn hz
  go_enter Try.func103, Try.ntmps103
  go_wp2_with fail
  go_region_with ((go_at_call 97; refine Calls.mono (HS.out _ rfl) ?_; rintro e w2 ⟨rfl, hB2⟩))
  go_wp2_with fail
  go_ret
  refine ⟨?_, (show Below w.heap.size w w2 from (Below.refl _ _).drew.trans hB2)⟩
  show Ending.returned (.bool ((s.extract n s.size).toList == z.toList)) = _
  rw [sumB, show s.size - 4 = n by have := Hn.out; omega, ← Hz.out]
end Go.Proofs.Ytoaaklhpmhjhkaa
