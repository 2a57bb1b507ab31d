/-
  The reference's Load refuses a file by its head.
-/
import Derived.Test.YtoaaklhpmhjhkaaLdJ
namespace Go.Proofs.Ytoaaklhpmhjhkaa
open Go.RowKit

theorem num1 (s : ByteArray) (i : Nat) (h : i < s.size) : num s i 1 = (s[i].toNat : Int) := by
  rw [fb_at s i h]; simp [num]
theorem num2 (s : ByteArray) (i : Nat) (h : i + 1 < s.size) : num s i 2 = (s[i].toNat : Int) * 256 + (s[i + 1].toNat : Int) := by
  rw [fb_at s i (by omega), fb_at s (i + 1) h]; simp [num]

set_option maxRecDepth 100000 in
set_option maxHeartbeats 4000000 in
theorem refLoad_magic (s : ByteArray) (w : World) (hs : s.size ≤ 140737488355328) (hm : magicB s = false) : Calls Try.prog 43 #[.string s] w (DecPost s w) := by
  have hz := zero_tables
  obtain ⟨W0, hW0⟩ : ∃ W, W = w.alloc (.cells #[.int .i64 0, .slice none 0 0, .slice none 0 0, .slice none 0 0, .slice none 0 0, .slice none 0 0, .slice none 0 0] 26) := ⟨_, rfl⟩
  have hT0 : W0.there w.heap.size 0 7 := by rw [hW0]; exact zeroT_there w _
  have hB0 : Below w.heap.size w W0 := by rw [hW0]; exact bel_box _ _
  obtain ⟨W1, hW1, hl1, hp1⟩ := dec_out hT0 hB0 (Or.inl ⟨hm, rfl⟩ : DecIs s 12)
  have HP1 : Hid (DecPost s w (.returned (.tuple #[.agg zeroT, .int .i64 12])) W1) := hp1
  have HW1 : Hid (W1 = W0.setCells w.heap.size 0 zeroT.toList) := hW1
  have HL1 : Hid ((loadVar 26 ⟨w.heap.size, 0, none⟩).run Try.prog W1 = .ok (.agg zeroT) W1) := hl1
  have HW0 : Hid (W0 = w.alloc (.cells #[.int .i64 0, .slice none 0 0, .slice none 0 0, .slice none 0 0, .slice none 0 0, .slice none 0 0, .slice none 0 0] 26)) := hW0
  clear hp1 hW1 hl1 hW0
  unfold magicB at hm
  by_cases h4 : 4 ≤ s.size
  · have h4' : ¬ (s.size : Int) < 4 := by omega
    have h4i : (4 : Int) ≤ (s.size : Int) := by omega
    have hq : ((s.extract 0 4).toList == [77, 85, 78, 49]) = false := by
      rw [decide_eq_true h4] at hm; simp only [Bool.true_and] at hm; exact hm
    clear hm
    go_enter Try.func43, Try.ntmps43
    go_wp2_with (first | (rw [← HW0.out]; refine wpList_store_mid rfl 26 _ _ rfl w.heap.size 0 zeroT rfl rfl hT0 info_tables (by simp [zeroT, Value.oneCell']) ?_; rw [← HW1.out]))
    refine bodyPost_ret (v := .tuple #[.agg zeroT, .int .i64 12]) (eResults_load2 Try.results43 rfl HL1.out rfl) rfl HP1.out
  · have h4' : (s.size : Int) < 4 := by omega
    clear hm
    go_enter Try.func43, Try.ntmps43
    go_wp2_with (first | (rw [← HW0.out]; refine wpList_store_mid rfl 26 _ _ rfl w.heap.size 0 zeroT rfl rfl hT0 info_tables (by simp [zeroT, Value.oneCell']) ?_; rw [← HW1.out]))
    refine bodyPost_ret (v := .tuple #[.agg zeroT, .int .i64 12]) (eResults_load2 Try.results43 rfl HL1.out rfl) rfl HP1.out

set_option maxRecDepth 100000 in
set_option maxHeartbeats 4000000 in
theorem refLoad_head (s : ByteArray) (w : World) (hs : s.size ≤ 140737488355328) (hm : magicB s = true) (hF : ¬ Fits s) : Calls Try.prog 43 #[.string s] w (DecPost s w) := by
  have hz := zero_tables
  obtain ⟨W0, hW0⟩ : ∃ W, W = w.alloc (.cells #[.int .i64 0, .slice none 0 0, .slice none 0 0, .slice none 0 0, .slice none 0 0, .slice none 0 0, .slice none 0 0] 26) := ⟨_, rfl⟩
  have hT0 : W0.there w.heap.size 0 7 := by rw [hW0]; exact zeroT_there w _
  have hB0 : Below w.heap.size w W0 := by rw [hW0]; exact bel_box _ _
  have HD : Hid (DecIs s 13) := Or.inr (Or.inl ⟨hm, hF, rfl⟩)
  obtain ⟨W1, hW1, hl1, hp1⟩ := dec_out hT0 hB0 (Or.inr (Or.inl ⟨hm, hF, rfl⟩) : DecIs s 13)
  have HP1 : Hid (DecPost s w (.returned (.tuple #[.agg zeroT, .int .i64 13])) W1) := hp1
  have HW1 : Hid (W1 = W0.setCells w.heap.size 0 zeroT.toList) := hW1
  have HL1 : Hid ((loadVar 26 ⟨w.heap.size, 0, none⟩).run Try.prog W1 = .ok (.agg zeroT) W1) := hl1
  have HW0 : Hid (W0 = w.alloc (.cells #[.int .i64 0, .slice none 0 0, .slice none 0 0, .slice none 0 0, .slice none 0 0, .slice none 0 0, .slice none 0 0] 26)) := hW0
  clear hp1 hW1 hl1 hW0
  unfold magicB at hm
  have h4 : 4 ≤ s.size := by
    rcases Nat.lt_or_ge s.size 4 with h | h
    · rw [decide_eq_false (by omega)] at hm; simp at hm
    · exact h
  have h4' : ¬ (s.size : Int) < 4 := by omega
  have h4i : (4 : Int) ≤ (s.size : Int) := by omega
  have hq : ((s.extract 0 4).toList == [77, 85, 78, 49]) = true := by
    rw [decide_eq_true h4] at hm; simp only [Bool.true_and] at hm; exact hm
  clear hm
  by_cases h10 : s.size < 10
  · have h10' : (s.size : Int) < 10 := by omega
    go_enter Try.func43, Try.ntmps43
    go_wp2_with (first | (rw [← HW0.out]; refine wpList_store_mid rfl 26 _ _ rfl w.heap.size 0 zeroT rfl rfl hT0 info_tables (by simp [zeroT, Value.oneCell']) ?_; rw [← HW1.out]))
    refine bodyPost_ret (v := .tuple #[.agg zeroT, .int .i64 13]) (eResults_load2 Try.results43 rfl HL1.out rfl) rfl HP1.out
  have h10' : ¬ (s.size : Int) < 10 := by omega
  clear HP1 HW1 HL1
  have hT1 : W0.drew.there w.heap.size 0 7 := fun j hj => hT0 j hj
  have hB1 : Below w.heap.size w W0.drew := hB0.drew
  obtain ⟨W1, hW1, hl1, hp1⟩ := dec_out hT1 hB1 HD.out
  have HP1 : Hid (DecPost s w (.returned (.tuple #[.agg zeroT, .int .i64 13])) W1) := hp1
  have HW1 : Hid (W1 = W0.drew.setCells w.heap.size 0 zeroT.toList) := hW1
  have HL1 : Hid ((loadVar 26 ⟨w.heap.size, 0, none⟩).run Try.prog W1 = .ok (.agg zeroT) W1) := hl1
  clear hp1 hW1 hl1 HD hT0 hB0
  have e4 := num1 s 4 (by omega)
  have e6 := num1 s 6 (by omega)
  have e7 := num2 s 7 (by omega)
  have e9 := num1 s 9 (by omega)
  have b4 := s[4].toNat_lt
  have b6 := s[6].toNat_lt
  have b7 := s[7].toNat_lt
  have b8 := s[8].toNat_lt
  have b9 := s[9].toNat_lt
  have hno : ¬ (HeadOK (num s 4 1) (num s 6 1) (num s 7 2) (num s 9 1) ∧ s.size = 266 + (num s 6 1).toNat * ((num s 9 1).toNat + 2) + (num s 7 2).toNat * 2 + 4) := fun h => hF ⟨by omega, h⟩
  rw [e4, e6, e7, e9] at hno
  clear e4 e6 e7 e9 hF
  unfold HeadOK at hno
  have q7 : (7 : Int) < (s.size : Int) := by omega
  have q8 : (8 : Int) < (s.size : Int) := by omega
  have n7 : 7 < s.size := by omega
  have n8 : 8 < s.size := by omega
  simp only [Nat.reduceAdd] at hno
  by_cases c1 : (s[4].toNat : Int) < 1
  · clear hno
    go_enter Try.func43, Try.ntmps43
    go_wp2_with fail
    go_region
    go_wp2_with (first | (rw [← HW0.out]; refine wpList_store_mid rfl 26 _ _ rfl w.heap.size 0 zeroT rfl rfl hT1 info_tables (by simp [zeroT, Value.oneCell']) ?_; rw [← HW1.out]))
    refine bodyPost_ret (v := .tuple #[.agg zeroT, .int .i64 13]) (eResults_load2 Try.results43 rfl HL1.out rfl) rfl HP1.out
  by_cases c2 : (8 : Int) < (s[4].toNat : Int)
  · clear hno
    go_enter Try.func43, Try.ntmps43
    go_wp2_with fail
    go_region
    go_wp2_with (first | (rw [← HW0.out]; refine wpList_store_mid rfl 26 _ _ rfl w.heap.size 0 zeroT rfl rfl hT1 info_tables (by simp [zeroT, Value.oneCell']) ?_; rw [← HW1.out]))
    refine bodyPost_ret (v := .tuple #[.agg zeroT, .int .i64 13]) (eResults_load2 Try.results43 rfl HL1.out rfl) rfl HP1.out
  by_cases c3 : (s[6].toNat : Int) < 1
  · clear hno
    go_enter Try.func43, Try.ntmps43
    go_wp2_with fail
    go_region
    go_wp2_with (first | (rw [← HW0.out]; refine wpList_store_mid rfl 26 _ _ rfl w.heap.size 0 zeroT rfl rfl hT1 info_tables (by simp [zeroT, Value.oneCell']) ?_; rw [← HW1.out]))
    refine bodyPost_ret (v := .tuple #[.agg zeroT, .int .i64 13]) (eResults_load2 Try.results43 rfl HL1.out rfl) rfl HP1.out
  by_cases c4 : (96 : Int) < (s[6].toNat : Int)
  · clear hno
    go_enter Try.func43, Try.ntmps43
    go_wp2_with fail
    go_region
    go_wp2_with (first | (rw [← HW0.out]; refine wpList_store_mid rfl 26 _ _ rfl w.heap.size 0 zeroT rfl rfl hT1 info_tables (by simp [zeroT, Value.oneCell']) ?_; rw [← HW1.out]))
    refine bodyPost_ret (v := .tuple #[.agg zeroT, .int .i64 13]) (eResults_load2 Try.results43 rfl HL1.out rfl) rfl HP1.out
  by_cases c5 : (24576 : Int) < (s[7].toNat : Int) * 256 + (s[8].toNat : Int)
  · clear hno
    go_enter Try.func43, Try.ntmps43
    go_wp2_with fail
    go_region
    go_wp2_with (first | (rw [← HW0.out]; refine wpList_store_mid rfl 26 _ _ rfl w.heap.size 0 zeroT rfl rfl hT1 info_tables (by simp [zeroT, Value.oneCell']) ?_; rw [← HW1.out]))
    refine bodyPost_ret (v := .tuple #[.agg zeroT, .int .i64 13]) (eResults_load2 Try.results43 rfl HL1.out rfl) rfl HP1.out
  by_cases c6 : (s[9].toNat : Int) < 1
  · clear hno
    go_enter Try.func43, Try.ntmps43
    go_wp2_with fail
    go_region
    go_wp2_with (first | (rw [← HW0.out]; refine wpList_store_mid rfl 26 _ _ rfl w.heap.size 0 zeroT rfl rfl hT1 info_tables (by simp [zeroT, Value.oneCell']) ?_; rw [← HW1.out]))
    refine bodyPost_ret (v := .tuple #[.agg zeroT, .int .i64 13]) (eResults_load2 Try.results43 rfl HL1.out rfl) rfl HP1.out
  by_cases c7 : (2 : Int) < (s[9].toNat : Int)
  · clear hno
    go_enter Try.func43, Try.ntmps43
    go_wp2_with fail
    go_region
    go_wp2_with (first | (rw [← HW0.out]; refine wpList_store_mid rfl 26 _ _ rfl w.heap.size 0 zeroT rfl rfl hT1 info_tables (by simp [zeroT, Value.oneCell']) ?_; rw [← HW1.out]))
    refine bodyPost_ret (v := .tuple #[.agg zeroT, .int .i64 13]) (eResults_load2 Try.results43 rfl HL1.out rfl) rfl HP1.out
  have hsz : s.size ≠ 266 + s[6].toNat * (s[9].toNat + 2) + (s[7].toNat * 256 + s[8].toNat) * 2 + 4 := fun h => hno ⟨⟨⟨by omega, by omega⟩, ⟨by omega, by omega⟩, by omega, by omega⟩, by
    rw [Int.toNat_natCast, Int.toNat_natCast]; generalize s[6].toNat * (s[9].toNat + 2) = P at h ⊢; omega⟩
  clear hno
  obtain ⟨m, hm⟩ : ∃ m, m = s[6].toNat * s[9].toNat := ⟨_, rfl⟩
  have im : (s[6].toNat : Int) * (s[9].toNat : Int) = (m : Int) := by rw [hm]; simp
  have bm : m ≤ 96 * 2 := by rw [hm]; exact Nat.mul_le_mul (by omega) (by omega)
  have hsz2 : ¬ (s.size : Int) = 266 + (s[6].toNat : Int) + (m : Int) + (s[6].toNat : Int) + 2 * ((s[7].toNat : Int) * 256 + (s[8].toNat : Int)) + 4 := by
    rw [Nat.mul_add, ← hm] at hsz; omega
  have hq1 : ((s.size : Int) == 266 + (s[6].toNat : Int) + (m : Int) + (s[6].toNat : Int) + 2 * ((s[7].toNat : Int) * 256 + (s[8].toNat : Int)) + 4) = false := by simpa using hsz2
  clear hsz hm
  go_enter Try.func43, Try.ntmps43
  go_wp2_with fail
  go_region
  go_wp2_with (first | (rw [← HW0.out]; refine wpList_store_mid rfl 26 _ _ rfl w.heap.size 0 zeroT rfl rfl hT1 info_tables (by simp [zeroT, Value.oneCell']) ?_; rw [← HW1.out]))
  refine bodyPost_ret (v := .tuple #[.agg zeroT, .int .i64 13]) (eResults_load2 Try.results43 rfl HL1.out rfl) rfl HP1.out
end Go.Proofs.Ytoaaklhpmhjhkaa
