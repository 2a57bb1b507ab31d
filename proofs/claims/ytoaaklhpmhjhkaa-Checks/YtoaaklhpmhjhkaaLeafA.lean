/-
  Contracts of the program's small functions (package pattern), which make no memory.
-/
import Derived.Test.YtoaaklhpmhjhkaaRows
import Derived.WalkKit
import Derived.WalkSpells
import Derived.WalkLawsBesides
import Derived.Deep.QuietTactic
import Derived.BigQuiet
import Derived.Test.YtoaaklhpmhjhkaaPlainP
import Derived.Test.YtoaaklhpmhjhkaaPlainB
namespace Go.Proofs.Ytoaaklhpmhjhkaa
open Go.RowKit

set_option maxHeartbeats 400000 in
theorem byteAt_any (s : ByteArray) (i : Int) (w : World) :
    Calls Try.prog 133 #[.string s, .int .i64 i] w fun e w' => e = .returned (.int .i64 (bat s i)) ∧ w' = w := by
  by_cases h0 : i < 0
  · go_enter Try.func133, Try.ntmps133
    go_wp2
    go_ret
    exact ⟨ret_int (bat_neg (by omega)).symm, rfl⟩
  · by_cases h1 : (s.size : Int) ≤ i
    · go_enter Try.func133, Try.ntmps133
      go_wp2
      go_ret
      exact ⟨ret_int (bat_neg (by omega)).symm, rfl⟩
    · go_enter Try.func133, Try.ntmps133
      go_wp2
      go_ret
      exact ⟨ret_int (by rw [bat_pos (by omega) (by omega), byte_wrap]), rfl⟩

set_option maxHeartbeats 400000 in
theorem isMark_any (b : Int) (w : World) :
    Calls Try.prog 159 #[.int .i64 b] w fun e w' => e = .returned (.bool (Pg.isMark b)) ∧ w' = w := by
  go_enter Try.func159, Try.ntmps159
  go_wp2
  all_goals
    go_ret
    refine ⟨ret_bool ?_, rfl⟩
    simp [Pg.isMark, *]

set_option maxHeartbeats 400000 in
theorem isInner_any (b : Int) (w : World) :
    Calls Try.prog 162 #[.int .i64 b] w fun e w' => e = .returned (.bool (Pg.isInner b)) ∧ w' = w := by
  go_enter Try.func162, Try.ntmps162
  go_wp2
  all_goals
    go_ret
    refine ⟨ret_bool ?_, rfl⟩
    simp [Pg.isInner, *]

set_option maxHeartbeats 400000 in
theorem digitValue_any (b : Int) (w : World) :
    Calls Try.prog 155 #[.int .i64 b] w fun e w' => e = .returned (.int .i64 (Pg.digitValue b)) ∧ w' = w := by
  by_cases h : 48 ≤ b ∧ b ≤ 57
  · obtain ⟨h1, h2⟩ := id h
    go_enter Try.func155, Try.ntmps155
    go_wp2
    go_ret
    exact ⟨ret_int (by rw [Pg.digitValue, if_pos h]), rfl⟩
  · by_cases h1 : 48 ≤ b
    all_goals
      have h2 : b < 48 ∨ 57 < b := by omega
      go_enter Try.func155, Try.ntmps155
      go_wp2
      all_goals
        go_ret
        exact ⟨ret_int (by rw [Pg.digitValue, if_neg (by omega)]), rfl⟩

set_option maxHeartbeats 400000 in
theorem hexValue_any (b : Int) (w : World) :
    Calls Try.prog 161 #[.int .i64 b] w fun e w' => e = .returned (.int .i64 (Pg.hexValue b)) ∧ w' = w := by
  by_cases h : 97 ≤ b ∧ b ≤ 102
  · obtain ⟨h1, h2⟩ := id h
    go_enter Try.func161, Try.ntmps161
    go_wp2
    go_ret
    exact ⟨ret_int (by rw [Pg.hexValue, if_pos h]), rfl⟩
  · have HX : Hid (Pg.hexValue b = Pg.digitValue b) := by show _ = _; rw [Pg.hexValue, if_neg h]
    by_cases h1 : 97 ≤ b
    · have h2 : ¬ b ≤ 102 := by omega
      clear h
      go_enter Try.func161, Try.ntmps161
      go_wp2_with fail
      refine (digitValue_any b _).mono ?_
      rintro e w' ⟨rfl, rfl⟩
      go_wp2_with fail
      go_ret
      exact ⟨ret_int HX.out.symm, rfl⟩
    · clear h
      go_enter Try.func161, Try.ntmps161
      go_wp2_with fail
      refine (digitValue_any b _).mono ?_
      rintro e w' ⟨rfl, rfl⟩
      go_wp2_with fail
      go_ret
      exact ⟨ret_int HX.out.symm, rfl⟩

set_option maxHeartbeats 400000 in
theorem kindOf_any (b : Int) (w : World) :
    Calls Try.prog 134 #[.int .i64 b] w fun e w' => e = .returned (.int .i64 (Pg.kindOf b)) ∧ w' = w := by
  go_enter Try.func134, Try.ntmps134
  go_wp2
  all_goals
    go_ret
    refine ⟨ret_int ?_, rfl⟩
    simp only [beq_iff_eq, beq_eq_false_iff_ne] at *
    unfold Pg.kindOf
    repeat' split
    all_goals first | rfl | omega

set_option maxHeartbeats 400000 in
theorem isSuffix_any (k : Int) (w : World) :
    Calls Try.prog 145 #[.int .i64 k] w fun e w' => e = .returned (.bool (Pg.isSuffix k)) ∧ w' = w := by
  go_enter Try.func145, Try.ntmps145
  go_wp2
  all_goals
    go_ret
    refine ⟨ret_bool ?_, rfl⟩
    simp [Pg.isSuffix, *]

set_option maxHeartbeats 400000 in
theorem opens_any (k : Int) (w : World) :
    Calls Try.prog 137 #[.int .i64 k] w fun e w' => e = .returned (.int .i64 (Pg.opn k)) ∧ w' = w := by
  go_enter Try.func137, Try.ntmps137
  go_wp2
  all_goals
    go_ret
    refine ⟨ret_int ?_, rfl⟩
    simp only [beq_iff_eq, beq_eq_false_iff_ne] at *
    unfold Pg.opn
    repeat' split
    all_goals first | rfl | omega

set_option maxHeartbeats 400000 in
theorem endsPiece_any (k : Int) (w : World) :
    Calls Try.prog 146 #[.int .i64 k] w fun e w' => e = .returned (.bool (Pg.endsPiece k)) ∧ w' = w := by
  cases h1 : (k == 1)
  · cases h3 : (k == 3)
    · go_enter Try.func146, Try.ntmps146
      go_wp2_with fail
      refine (isSuffix_any k _).mono ?_
      rintro e w' ⟨rfl, rfl⟩
      go_wp2_with fail
      go_ret
      exact ⟨ret_bool (by simp [Pg.endsPiece, h1, h3]), rfl⟩
    · go_enter Try.func146, Try.ntmps146
      go_wp2_with fail
      go_ret
      exact ⟨ret_bool (by simp [Pg.endsPiece, h1, h3]), rfl⟩
  · go_enter Try.func146, Try.ntmps146
    go_wp2_with fail
    go_ret
    exact ⟨ret_bool (by simp [Pg.endsPiece, h1]), rfl⟩

set_option maxHeartbeats 400000 in
theorem canStand_any (k b o : Int) (w : World) :
    Calls Try.prog 135 #[.int .i64 k, .int .i64 b, .int .i64 o] w fun e w' => e = .returned (.bool (Pg.canStand k b o)) ∧ w' = w := by
  by_cases h0 : k = 0
  · subst h0
    go_enter Try.func135, Try.ntmps135
    go_wp2_with fail
    go_ret
    exact ⟨rfl, rfl⟩
  have b0 : (k == 0) = false := by simpa using h0
  by_cases h3 : k = 3
  · subst h3
    go_enter Try.func135, Try.ntmps135
    go_wp2_with fail
    go_ret
    exact ⟨ret_bool (by simp [Pg.canStand]), rfl⟩
  have b3 : (k == 3) = false := by simpa using h3
  have HC : Hid (Pg.canStand k b o = if Pg.isSuffix k then Pg.endsPiece b else true) := by show _ = _; simp [Pg.canStand, h0, h3]
  clear h0 h3
  go_enter Try.func135, Try.ntmps135
  go_wp2_with fail
  refine (isSuffix_any k _).mono ?_
  rintro e w' ⟨rfl, rfl⟩
  cases hs : Pg.isSuffix k
  · have HS : Hid (Pg.isSuffix k = false) := hs
    clear hs
    go_wp2_with fail
    go_ret
    exact ⟨ret_bool (by rw [HC.out, HS.out]; rfl), rfl⟩
  · have HS : Hid (Pg.isSuffix k = true) := hs
    clear hs
    go_wp2_with fail
    refine (endsPiece_any b _).mono ?_
    rintro e w' ⟨rfl, rfl⟩
    go_wp2_with fail
    go_ret
    exact ⟨ret_bool (by rw [HC.out, HS.out]; rfl), rfl⟩

set_option maxHeartbeats 400000 in
theorem capped_any (n : Int) (w : World) :
    Calls Try.prog 114 #[.int .i64 n] w fun e w' => e = .returned (.int .i64 (Pg.capped n)) ∧ w' = w := by
  by_cases h : 96 < n
  · go_enter Try.func114, Try.ntmps114
    go_wp2_with fail
    go_ret
    exact ⟨ret_int (by rw [Pg.capped, if_pos h]), rfl⟩
  · go_enter Try.func114, Try.ntmps114
    go_wp2_with fail
    go_ret
    exact ⟨ret_int (by rw [Pg.capped, if_neg (by omega)]), rfl⟩
end Go.Proofs.Ytoaaklhpmhjhkaa
