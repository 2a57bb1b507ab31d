/-
  Contracts of the reference's value and empty.
-/
import Derived.Test.YtoaaklhpmhjhkaaRefF
namespace Go.Proofs.Ytoaaklhpmhjhkaa
open Go.RowKit

theorem set_at (s : ByteArray) (k : Nat) (i : Int) (j : Nat) (fa : Int) (inn : Nat → Bool) (w : World) (hs : s.size ≤ 40) (hi : i = k) (h : Rf.set (s.data.toList.drop (k + 1)) k = some (j, fa, inn)) :
    Calls Try.prog 117 #[.string s, .int .i64 i] w fun e w' => e = .returned (.tuple #[.slice (some ⟨w.heap.size, 0, none⟩) 256 256, .int .i64 j, .int .i64 fa]) ∧ BRow w.heap.size inn w' ∧ Below w.heap.size w w' := by
  subst hi; exact set_any s k j fa inn w hs h

set_option maxRecDepth 100000 in
set_option maxHeartbeats 2000000 in
theorem value_any (s : ByteArray) (v : Int) (f0 : Nat) (w : World) (hs : s.size ≤ 40) (h : Rf.valueFrom s.data.toList f0 0 = some v) :
    Calls Try.prog 85 #[.string s] w fun e w' => e = .returned (.int .i64 v) ∧ Below w.heap.size w w' := by
  go_enter Try.func85, Try.ntmps85
  go_wp2_with fail
  go_loopw [3] (fun i w' => ∃ (f k : Nat), i = .int .i64 k ∧ Below w.heap.size w w' ∧ Hid (Rf.valueFrom s.data.toList f k = some v)) (fun i _ => s.size - (intOf i).toNat)
  case atStart => exact ⟨f0, 0, rfl, Below.refl _ _, h⟩
  case round =>
    clear h
    obtain ⟨f, k, rfl, hW, HS⟩ := hrel
    rcases f with _ | f
    · exact absurd HS.out (by simp [Rf.valueFrom])
    have hI := HS.out
    clear HS
    rcases hd : s.data.toList.drop k with _ | ⟨c, r⟩
    · simp only [Rf.valueFrom, hd, Option.some.injEq] at hI
      have hk : s.size ≤ k := by simpa using hd
      clear hd
      go_wp2_with fail
      go_ret
      exact ⟨ret_int hI, hW⟩
    obtain ⟨hk, hc, hr⟩ := at_of_drop hd
    simp only [Rf.valueFrom, hd] at hI
    by_cases e92 : c = 92
    · have hb : ((s[k].toNat : Int) == 92) = true := by rw [hc, e92]; rfl
      rw [if_pos e92] at hI
      rcases ho : Rf.one (c :: r) with _ | ⟨a, n⟩
      · rw [ho] at hI; cases hI
      have ho' : Rf.one (s.data.toList.drop k) = some (a, n) := by rw [hd]; exact ho
      obtain ⟨ha0, ha1, hn1, hn4⟩ := Rf.one_bd ho
      rw [ho] at hI
      have HI : Hid (Rf.valueFrom s.data.toList f (k + n) = some v) := hI
      clear hI hd hc hr e92 ho
      go_wp2_with fail
      refine (one_at s k _ a n _ hs rfl ho').mono ?_
      rintro e w1 ⟨rfl, q, rfl⟩
      go_wp2_with fail
      go_roundw
      case rel => exact ⟨f, k + n, by go_num, hW.trans (below_drewN _ _ _), HI⟩
      case measure => simp [intOf]; omega
    have hb92 : ((s[k].toNat : Int) == 92) = false := by rw [hc]; exact bne_of e92
    rw [if_neg e92] at hI
    by_cases e91 : c = 91
    · have hb : ((s[k].toNat : Int) == 91) = true := by rw [hc, e91]; rfl
      rw [if_pos e91] at hI
      rcases ho : Rf.set r k with _ | ⟨j, fa, inn⟩
      · rw [ho] at hI; cases hI
      have ho' : Rf.set (s.data.toList.drop (k + 1)) k = some (j, fa, inn) := by rw [hr]; exact ho
      have hj := Rf.set_ge ho
      rw [ho] at hI
      simp only at hI
      by_cases hfa : 0 ≤ fa
      · rw [if_pos hfa] at hI
        have HI : Hid (some fa = some v) := hI
        clear hI hd hc hr e92 e91 ho
        go_wp2_with fail
        refine (set_at s k _ j fa inn _ hs rfl ho').mono ?_
        rintro e w1 ⟨rfl, hB, hW1⟩
        go_wp2_with fail
        go_ret
        exact ⟨ret_int (Option.some.inj HI.out), hW.trans (hW1.mono hW.size)⟩
      · rw [if_neg hfa] at hI
        have HI : Hid (Rf.valueFrom s.data.toList f j = some v) := hI
        clear hI hd hc hr e92 e91 ho
        go_wp2_with fail
        refine (set_at s k _ j fa inn _ hs rfl ho').mono ?_
        rintro e w1 ⟨rfl, hB, hW1⟩
        go_wp2_with fail
        go_roundw
        case rel => exact ⟨f, j, rfl, hW.trans (hW1.mono hW.size), HI⟩
        case measure => simp [intOf]; omega
    have hb91 : ((s[k].toNat : Int) == 91) = false := by rw [hc]; exact bne_of e91
    rw [if_neg e91] at hI
    by_cases e123 : c = 123
    · have hb : ((s[k].toNat : Int) == 123) = true := by rw [hc, e123]; rfl
      rw [if_pos e123] at hI
      rcases r with _ | ⟨x, _ | ⟨y, r'⟩⟩
      · cases hI
      · cases hI
      obtain ⟨hk1, hc1, hr1⟩ := at_of_drop hr
      obtain ⟨hk2, hc2, hr2⟩ := at_of_drop hr1
      have hk2' : k + 2 < s.size := hk2
      have hc2' : s[k + 2] = y := hc2
      have i1 : (0 : Int) ≤ (k : Int) + 1 ∧ (k : Int) + 1 < (s.size : Int) := by omega
      have i2 : (0 : Int) ≤ (k : Int) + 2 ∧ (k : Int) + 2 < (s.size : Int) := by omega
      simp only at hI
      by_cases e44 : y = 44
      · have hb44 : ((s[k + 2].toNat : Int) == 44) = true := by rw [hc2', e44]; rfl
        rw [if_pos e44] at hI
        rcases r' with _ | ⟨z, r''⟩
        · cases hI
        obtain ⟨hk3, hc3, hr3⟩ := at_of_drop hr2
        have hk3' : k + 3 < s.size := hk3
        have hc3' : s[k + 3] = z := hc3
        have i3 : (0 : Int) ≤ (k : Int) + 3 ∧ (k : Int) + 3 < (s.size : Int) := by omega
        simp only at hI
        by_cases hzx : z.toNat < x.toNat
        · rw [if_pos hzx] at hI
          have HI : Hid (some (k : Int) = some v) := hI
          rw [← hc1, ← hc3'] at hzx
          have hzx' : (s[k + 3].toNat : Int) < (s[k + 1].toNat : Int) := by omega
          clear hI hd hc hr e92 e91 e123 hc1 hr1 hc2 hr2 hc3 hr3 hc2' hc3' hk2 hk3 e44 hzx
          go_wp2_with fail
          go_quiet (fail)
          go_wp2_with fail
          go_ret
          exact ⟨ret_int (Option.some.inj HI.out), hW.trans (below_drewN _ _ _)⟩
        · rw [if_neg hzx] at hI
          have HI : Hid (Rf.valueFrom s.data.toList f (k + 1) = some v) := hI
          rw [← hc1, ← hc3'] at hzx
          have hzx' : ¬ (s[k + 3].toNat : Int) < (s[k + 1].toNat : Int) := by omega
          clear hI hd hc hr e92 e91 e123 hc1 hr1 hc2 hr2 hc3 hr3 hc2' hc3' hk2 hk3 e44 hzx
          go_wp2_with fail
          go_quiet (fail)
          go_wp2_with fail
          go_roundw
          case rel => exact ⟨f, k + 1, by go_num, hW.trans (below_drewN _ _ _), HI⟩
          case measure => simp [intOf]; omega
      · have hb44 : ((s[k + 2].toNat : Int) == 44) = false := by rw [hc2']; exact bne_of e44
        rw [if_neg e44] at hI
        have HI : Hid (Rf.valueFrom s.data.toList f (k + 1) = some v) := hI
        clear hI hd hc hr e92 e91 e123 hc1 hr1 hc2 hr2 hc2' hk2 e44
        go_wp2_with fail
        go_quiet (fail)
        go_wp2_with fail
        go_roundw
        case rel => exact ⟨f, k + 1, by go_num, hW.trans (below_drewN _ _ _), HI⟩
        case measure => simp [intOf]; omega
    · have hb : ((s[k].toNat : Int) == 123) = false := by rw [hc]; exact bne_of e123
      rw [if_neg e123] at hI
      have HI : Hid (Rf.valueFrom s.data.toList f (k + 1) = some v) := hI
      clear hI hd hc hr e92 e91 e123
      go_wp2_with fail
      go_quiet (fail)
      go_wp2_with fail
      go_roundw
      case rel => exact ⟨f, k + 1, by go_num, hW.trans (below_drewN _ _ _), HI⟩
      case measure => simp [intOf]; omega

set_option maxRecDepth 100000 in
set_option maxHeartbeats 2000000 in
theorem empty_any (s : ByteArray) (v : Int) (f0 : Nat) (w : World) (hs : s.size ≤ 40) (h : Rf.emptyFrom s.data.toList f0 0 = some v) :
    Calls Try.prog 86 #[.string s] w fun e w' => e = .returned (.int .i64 v) ∧ Below w.heap.size w w' := by
  go_enter Try.func86, Try.ntmps86
  go_wp2_with fail
  go_loopw [3] (fun i w' => ∃ (f k : Nat), i = .int .i64 k ∧ Below w.heap.size w w' ∧ Hid (Rf.emptyFrom s.data.toList f k = some v)) (fun i _ => s.size - (intOf i).toNat)
  case atStart => exact ⟨f0, 0, rfl, Below.refl _ _, h⟩
  case round =>
    clear h
    obtain ⟨f, k, rfl, hW, HS⟩ := hrel
    rcases f with _ | f
    · exact absurd HS.out (by simp [Rf.emptyFrom])
    have hI := HS.out
    clear HS
    rcases hd : s.data.toList.drop k with _ | ⟨c, r⟩
    · simp only [Rf.emptyFrom, hd, Option.some.injEq] at hI
      have hk : s.size ≤ k := by simpa using hd
      clear hd
      go_wp2_with fail
      go_ret
      exact ⟨ret_int hI, hW⟩
    obtain ⟨hk, hc, hr⟩ := at_of_drop hd
    simp only [Rf.emptyFrom, hd] at hI
    by_cases e92 : c = 92
    · have hb : ((s[k].toNat : Int) == 92) = true := by rw [hc, e92]; rfl
      rw [if_pos e92] at hI
      rcases ho : Rf.one (c :: r) with _ | ⟨a, n⟩
      · rw [ho] at hI; cases hI
      have ho' : Rf.one (s.data.toList.drop k) = some (a, n) := by rw [hd]; exact ho
      obtain ⟨ha0, ha1, hn1, hn4⟩ := Rf.one_bd ho
      rw [ho] at hI
      have HI : Hid (Rf.emptyFrom s.data.toList f (k + n) = some v) := hI
      clear hI hd hc hr e92 ho
      go_wp2_with fail
      refine (one_at s k _ a n _ hs rfl ho').mono ?_
      rintro e w1 ⟨rfl, q, rfl⟩
      go_wp2_with fail
      go_roundw
      case rel => exact ⟨f, k + n, by go_num, hW.trans (below_drewN _ _ _), HI⟩
      case measure => simp [intOf]; omega
    have hb92 : ((s[k].toNat : Int) == 92) = false := by rw [hc]; exact bne_of e92
    rw [if_neg e92] at hI
    by_cases e91 : c = 91
    · have hb : ((s[k].toNat : Int) == 91) = true := by rw [hc, e91]; rfl
      rw [if_pos e91] at hI
      rcases ho : Rf.set r k with _ | ⟨j, fa, inn⟩
      · rw [ho] at hI; cases hI
      have ho' : Rf.set (s.data.toList.drop (k + 1)) k = some (j, fa, inn) := by rw [hr]; exact ho
      have hj := Rf.set_ge ho
      rw [ho] at hI
      have HI : Hid ((if Rf.cntTo inn 256 = 0 then some (k : Int) else Rf.emptyFrom s.data.toList f j) = some v) := hI
      clear hI hd hc hr e92 e91 ho
      go_wp2_with fail
      refine (set_at s k _ j fa inn _ hs rfl ho').mono ?_
      rintro e w1 ⟨rfl, hB, hW1⟩
      have hW2 := hW.trans (hW1.mono hW.size)
      clear ho'
      go_wp2_with fail
      go_loop [7, 8] (fun n x => ∃ k2 : Nat, k2 ≤ 256 ∧ x = .int .i64 k2 ∧ n = .int .i64 (Rf.cntTo inn k2)) (fun _ x => 256 - (intOf x).toNat)
      case atStart => exact ⟨0, by omega, rfl, rfl⟩
      case round =>
        obtain ⟨k2, hk2, rfl, rfl⟩ := hrel
        have hle := Rf.cntTo_le inn k2
        by_cases hlt : k2 < 256
        · obtain ⟨hcc, hff⟩ := hB k2 hlt
          cases hin : inn k2
          · rw [hin] at hcc
            have HN : Hid (Rf.cntTo inn (k2 + 1) = Rf.cntTo inn k2) := by show _ = _; simp [Rf.cntTo, hin]
            clear hin
            go_wp2_with fail
            go_round
            case rel => exact ⟨k2 + 1, by omega, by go_num, by rw [HN.out]⟩
            case measure => simp [intOf]; omega
          · rw [hin] at hcc
            have HN : Hid (Rf.cntTo inn (k2 + 1) = Rf.cntTo inn k2 + 1) := by show _ = _; simp [Rf.cntTo, hin]
            clear hin
            go_wp2_with fail
            go_round
            case rel => exact ⟨k2 + 1, by omega, by go_num, by rw [HN.out]; go_num⟩
            case measure => simp [intOf]; omega
        · have hk256 : k2 = 256 := by omega
          subst hk256
          by_cases h0 : Rf.cntTo inn 256 = 0
          · have h0' : ((Rf.cntTo inn 256 : Int) == 0) = true := by simp [h0]
            have HI2 := HI.out
            rw [if_pos h0] at HI2
            have HI3 : Hid (some (k : Int) = some v) := HI2
            clear HI2 h0
            go_wp2_with fail
            go_ret
            exact ⟨ret_int (Option.some.inj HI3.out), hW2⟩
          · have h0' : ((Rf.cntTo inn 256 : Int) == 0) = false := by simp [h0]
            have HI2 := HI.out
            rw [if_neg h0] at HI2
            have HI3 : Hid (Rf.emptyFrom s.data.toList f j = some v) := HI2
            clear HI2 h0
            go_wp2_with fail
            go_roundw
            case rel => exact ⟨f, j, rfl, hW2, HI3⟩
            case measure => simp [intOf]; omega
    have hb91 : ((s[k].toNat : Int) == 91) = false := by rw [hc]; exact bne_of e91
    rw [if_neg e91] at hI
    have HI : Hid (Rf.emptyFrom s.data.toList f (k + 1) = some v) := hI
    clear hI hd hc hr e92 e91
    go_wp2_with fail
    go_roundw
    case rel => exact ⟨f, k + 1, by go_num, hW, HI⟩
    case measure => simp [intOf]; omega

end Go.Proofs.Ytoaaklhpmhjhkaa
