/-
  Contracts of the reference's split, counts, size, places.
-/
import Derived.Test.YtoaaklhpmhjhkaaRefH
namespace Go.Proofs.Ytoaaklhpmhjhkaa
open Go.RowKit

theorem ext_list (s : ByteArray) (a b : Nat) : (s.extract a b).data.toList = (s.data.toList.take b).drop a := by
  simp [ByteArray.data_extract, List.extract_eq_take_drop, List.drop_take]
theorem ext_to (s : ByteArray) (b : Nat) : (s.extract 0 b).data.toList = s.data.toList.take b := by
  rw [ext_list]; rfl
theorem ext_from (s : ByteArray) (a : Nat) : (s.extract a s.size).data.toList = s.data.toList.drop a := by
  rw [ext_list, List.take_of_length_le (by simp)]
theorem ext_size (s : ByteArray) (a b : Nat) (h : s.size ≤ 40) : (s.extract a b).size ≤ 40 := by
  simp [ByteArray.size_extract]; omega
theorem tuple_str {a a' b b' : ByteArray} (h : a = a') (h' : b = b') : Ending.returned (.tuple #[.string a, .string b]) = .returned (.tuple #[.string a', .string b']) := by rw [h, h']

set_option maxHeartbeats 1000000 in
theorem split_any (s : ByteArray) (n : Nat) (w : World) (hs : s.size ≤ 40) (h : Rf.split s.data.toList = some n) :
    Calls Try.prog 121 #[.string s] w fun e w' => e = .returned (.tuple #[.string (s.extract 0 n), .string (s.extract n s.size)]) ∧ Below w.heap.size w w' := by
  rcases ha : Rf.atom s.data.toList with _ | n0
  · simp [Rf.split, ha] at h
  simp only [Rf.split, ha] at h
  have h0 : n0 ≤ s.size := by have := (Rf.atom_le ha).2; simpa using this
  go_enter Try.func121, Try.ntmps121
  go_wp2_with fail
  refine (atom_any s n0 _ hs ha).mono ?_
  rintro e w1 ⟨rfl, hW⟩
  clear ha
  go_wp2_with fail
  go_loop [4, 5] (fun i j => ∃ (f k c : Nat), i = .int .i64 k ∧ j = .int .i64 c ∧ c ≤ s.size ∧ Hid (Rf.splitFrom s.data.toList f k c = some n)) (fun i _ => s.size - (intOf i).toNat)
  case atStart => exact ⟨_, n0, n0, rfl, rfl, h0, h⟩
  case round =>
    clear h
    obtain ⟨f, k, c0, rfl, rfl, hc0, HS⟩ := hrel
    rcases f with _ | f
    · exact absurd HS.out (by simp [Rf.splitFrom])
    have hI := HS.out
    clear HS
    rcases hd : s.data.toList.drop k with _ | ⟨c, r⟩
    · simp only [Rf.splitFrom, hd, Option.some.injEq] at hI
      have hk : s.size ≤ k := by simpa using hd
      subst hI
      have i1 : (0 : Int) ≤ (c0 : Int) ∧ (c0 : Int) ≤ (s.size : Int) := by omega
      clear hd
      go_wp2_with fail
      go_quiet (fail)
      go_wp2_with fail
      go_ret2
      exact ⟨rfl, hW.trans (below_drewN _ _ _)⟩
    obtain ⟨hk, hc, hr⟩ := at_of_drop hd
    simp only [Rf.splitFrom, hd] at hI
    rcases hsf : Rf.suffixed s.data.toList k with _ | n'
    · rw [hsf] at hI; simp at hI
    rw [hsf] at hI
    have hgt : k < n' := Rf.suffixed_gt hsf
    have HI : Hid (Rf.splitFrom s.data.toList f n' k = some n) := hI
    clear hI hd hc hr
    go_wp2_with fail
    refine (suffixed_any s k _ n' _ hs rfl hsf).mono ?_
    rintro e w' ⟨rfl, rfl⟩
    go_wp2_with fail
    go_round
    case rel => exact ⟨f, n', k, rfl, rfl, by omega, HI⟩
    case measure => simp [intOf]; omega

set_option maxHeartbeats 1000000 in
theorem counts_any (s : ByteArray) (m : Int) (w : World) (hs : s.size ≤ 40) (h : Rf.most s.data.toList = some m) :
    Calls Try.prog 122 #[.string s] w fun e w' => ∃ l : Int, e = .returned (.tuple #[.int .i64 l, .int .i64 m]) ∧ Below w.heap.size w w' := by
  rcases hd : s.data.toList.drop 0 with _ | ⟨c, _ | ⟨x, _ | ⟨y, r⟩⟩⟩
  · rw [List.drop_zero] at hd; rw [hd] at h; simp [Rf.most] at h
  · rw [List.drop_zero] at hd; rw [hd] at h; simp [Rf.most] at h
  · rw [List.drop_zero] at hd; rw [hd] at h; simp [Rf.most] at h
  obtain ⟨hk, hc, hr⟩ := at_of_drop hd
  obtain ⟨hk1, hc1, hr1⟩ := at_of_drop hr
  obtain ⟨hk2, hc2, hr2⟩ := at_of_drop hr1
  rw [List.drop_zero] at hd; rw [hd] at h
  simp only [Rf.most] at h
  have hk1' : 1 < s.size := hk1
  have hk2' : 2 < s.size := hk2
  have hc1' : s[1] = x := hc1
  have hc2' : s[2] = y := hc2
  have i1 : (1 : Int) < (s.size : Int) := by omega
  have i2 : (2 : Int) < (s.size : Int) := by omega
  rw [← hc1'] at h
  cases hdx : Rf.digit s[1].toNat
  · rw [hdx] at h; cases h
  rw [hdx, if_pos rfl] at h
  have hx : 48 ≤ (s[1].toNat : Int) ∧ (s[1].toNat : Int) ≤ 57 := by simpa [Rf.digit] using hdx
  obtain ⟨hx0, hx1⟩ := hx
  by_cases e44 : y = 44
  · have hb : ((s[2].toNat : Int) == 44) = true := by rw [hc2', e44]; rfl
    rw [if_pos e44] at h
    rcases r with _ | ⟨z, r'⟩
    · cases h
    obtain ⟨hk3, hc3, hr3⟩ := at_of_drop hr2
    have hk3' : 3 < s.size := hk3
    have hc3' : s[3] = z := hc3
    have i3 : (3 : Int) < (s.size : Int) := by omega
    simp only [← hc3'] at h
    cases hdz : Rf.digit s[3].toNat
    · rw [hdz] at h; cases h
    rw [hdz, if_pos rfl] at h
    have hz : 48 ≤ (s[3].toNat : Int) ∧ (s[3].toNat : Int) ≤ 57 := by simpa [Rf.digit] using hdz
    obtain ⟨hz0, hz1⟩ := hz
    have HI := Option.some.inj h
    subst HI
    clear hd hc hr hc1 hr1 hc2 hr2 hc1' hc2' h hdx e44 hc3 hr3 hc3' hdz
    go_enter Try.func122, Try.ntmps122
    go_wp2_with fail
    go_quiet (fail)
    go_wp2_with fail
    go_ret2
    exact ⟨_, rfl, below_drewN _ _ _⟩
  · have hb : ((s[2].toNat : Int) == 44) = false := by rw [hc2']; exact bne_of e44
    rw [if_neg e44] at h
    have HI := Option.some.inj h
    subst HI
    clear hd hc hr hc1 hr1 hc2 hr2 hc1' hc2' h hdx e44
    go_enter Try.func122, Try.ntmps122
    go_wp2_with fail
    go_ret2
    exact ⟨_, rfl, Below.refl _ _⟩
end Go.Proofs.Ytoaaklhpmhjhkaa
