/-
  Contracts of the reference's atom, suffixed, piece, split, counts.
-/
import Derived.Test.YtoaaklhpmhjhkaaRefG
import Derived.Test.YtoaaklhpmhjhkaaPlainC
namespace Go.Proofs.Ytoaaklhpmhjhkaa
open Go.RowKit

set_option maxHeartbeats 1000000 in
theorem suffixed_any (s : ByteArray) (k : Nat) (i : Int) (n : Nat) (w : World) (hs : s.size ≤ 40) (hi : i = k) (h : Rf.suffixed s.data.toList k = some n) :
    Calls Try.prog 120 #[.string s, .int .i64 i] w fun e w' => e = .returned (.int .i64 n) ∧ w' = w := by
  subst hi
  rcases hd : s.data.toList.drop k with _ | ⟨c, r⟩
  · simp [Rf.suffixed, hd] at h
  obtain ⟨hk, hc, hr⟩ := at_of_drop hd
  simp only [Rf.suffixed, hd] at h
  by_cases e : c = 123
  · have hb : ((s[k].toNat : Int) == 123) = true := by rw [hc, e]; rfl
    rw [if_pos e] at h
    clear hd hc hr e
    go_enter Try.func120, Try.ntmps120
    go_wp2_with fail
    go_loop [1] (fun i => ∃ (f k' : Nat), i = .int .i64 k' ∧ Hid (Rf.closeFrom s.data.toList f k' = some n)) (fun i => s.size - (intOf i).toNat)
    case atStart => exact ⟨_, k, rfl, h⟩
    case round =>
      clear h
      obtain ⟨f, k', rfl, HS⟩ := hrel
      rcases f with _ | f
      · exact absurd HS.out (by simp [Rf.closeFrom])
      have hI := HS.out
      clear HS
      rcases hd : s.data.toList.drop k' with _ | ⟨c, r⟩
      · simp [Rf.closeFrom, hd] at hI
      obtain ⟨hk', hc, hr⟩ := at_of_drop hd
      simp only [Rf.closeFrom, hd] at hI
      by_cases e : c = 125
      · have hb : ((s[k'].toNat : Int) == 125) = true := by rw [hc, e]; rfl
        rw [if_pos e] at hI
        have HI : Hid (some (k' + 1) = some n) := hI
        clear hI hd hc hr e
        go_wp2_with fail
        go_ret
        exact ⟨ret_int (by have := Option.some.inj HI.out; omega), rfl⟩
      · have hb : ((s[k'].toNat : Int) == 125) = false := by rw [hc]; exact bne_of e
        rw [if_neg e] at hI
        have HI : Hid (Rf.closeFrom s.data.toList f (k' + 1) = some n) := hI
        clear hI hd hc hr e
        go_wp2_with fail
        go_round
        case rel => exact ⟨f, k' + 1, by go_num, HI⟩
        case measure => simp [intOf]; omega
  · have hb : ((s[k].toNat : Int) == 123) = false := by rw [hc]; exact bne_of e
    rw [if_neg e] at h
    have HI : Hid (some (k + 1) = some n) := h
    clear hd hc hr e h
    go_enter Try.func120, Try.ntmps120
    go_wp2_with fail
    go_ret
    exact ⟨ret_int (by have := Option.some.inj HI.out; omega), rfl⟩

set_option maxRecDepth 100000 in
set_option maxHeartbeats 2000000 in
theorem atom_any (s : ByteArray) (n : Nat) (w : World) (hs : s.size ≤ 40) (h : Rf.atom s.data.toList = some n) :
    Calls Try.prog 118 #[.string s] w fun e w' => e = .returned (.int .i64 n) ∧ Below w.heap.size w w' := by
  rcases hd : s.data.toList.drop 0 with _ | ⟨c, r⟩
  · rw [List.drop_zero] at hd; rw [hd] at h; cases h
  obtain ⟨hk, hc, hr⟩ := at_of_drop hd
  have hl : s.data.toList = c :: r := by rw [List.drop_zero] at hd; exact hd
  by_cases e92 : c = 92
  · have hb : ((s[0].toNat : Int) == 92) = true := by rw [hc, e92]; rfl
    have ⟨a, ho⟩ : ∃ a, Rf.one (s.data.toList.drop 0) = some (a, n) := by
      rw [hl] at h ⊢
      simp only [Rf.atom, if_pos e92, List.drop_zero] at h ⊢
      rcases ho : Rf.one (c :: r) with _ | ⟨a, n'⟩
      · rw [ho] at h; cases h
      · rw [ho] at h; simp at h; subst h; exact ⟨a, rfl⟩
    clear hd hc hr hl e92 h
    go_enter Try.func118, Try.ntmps118
    go_wp2_with fail
    refine (one_at s 0 _ a n _ hs rfl ho).mono ?_
    rintro e w1 ⟨rfl, q, rfl⟩
    go_wp2_with fail
    go_ret
    exact ⟨ret_int (by omega), below_drewN _ _ _⟩
  have hb92 : ((s[0].toNat : Int) == 92) = false := by rw [hc]; exact bne_of e92
  by_cases e91 : c = 91
  · have hb : ((s[0].toNat : Int) == 91) = true := by rw [hc, e91]; rfl
    have ⟨fa, inn, ho⟩ : ∃ fa inn, Rf.set (s.data.toList.drop (0 + 1)) 0 = some (n, fa, inn) := by
      rw [hr]; rw [hl] at h
      simp only [Rf.atom, if_neg e92, if_pos e91] at h
      rcases ho : Rf.set r 0 with _ | ⟨n', fa, inn⟩
      · rw [ho] at h; cases h
      · rw [ho] at h; simp at h; subst h; exact ⟨fa, inn, rfl⟩
    clear hd hc hr hl e92 h e91
    go_enter Try.func118, Try.ntmps118
    go_wp2_with fail
    refine (set_at s 0 _ n fa inn _ hs rfl ho).mono ?_
    rintro e w1 ⟨rfl, hB, hW⟩
    go_wp2_with fail
    go_ret
    exact ⟨rfl, hW⟩
  have hb91 : ((s[0].toNat : Int) == 91) = false := by rw [hc]; exact bne_of e91
  by_cases e40 : c = 40
  · have hb : ((s[0].toNat : Int) == 40) = true := by rw [hc, e40]; rfl
    have hg : Rf.groupFrom s.data.toList (r.length + 2) 0 0 = some n := by
      rw [hl] at h ⊢
      simp only [Rf.atom, if_neg e92, if_neg e91, if_pos e40] at h; exact h
    clear hd hc hr hl e92 h e91 e40
    go_enter Try.func118, Try.ntmps118
    go_wp2_with fail
    go_loopw [8, 9] (fun o i w' => ∃ (f k : Nat) (op : Int), i = .int .i64 k ∧ o = .int .i64 op ∧ -(k : Int) ≤ op ∧ op ≤ k ∧ Below w.heap.size w w' ∧ Hid (Rf.groupFrom s.data.toList f k op = some n)) (fun _ i _ => s.size - (intOf i).toNat)
    case atStart => exact ⟨_, 0, 0, rfl, rfl, by omega, by omega, Below.refl _ _, hg⟩
    case round =>
      clear hg
      obtain ⟨f, k, op, rfl, rfl, ho0, ho1, hW, HS⟩ := hrel
      rcases f with _ | f
      · exact absurd HS.out (by simp [Rf.groupFrom])
      have hI := HS.out
      clear HS
      rcases hd : s.data.toList.drop k with _ | ⟨c, r⟩
      · simp only [Rf.groupFrom, hd, Option.some.injEq] at hI
        have hk : s.size ≤ k := by simpa using hd
        have HI : Hid (1 = n) := hI
        clear hd hI
        go_wp2_with fail
        go_ret
        exact ⟨ret_int (by have := HI.out; omega), hW⟩
      obtain ⟨hk, hc, hr⟩ := at_of_drop hd
      simp only [Rf.groupFrom, hd] at hI
      by_cases e92 : c = 92
      · have hb : ((s[k].toNat : Int) == 92) = true := by rw [hc, e92]; rfl
        rw [if_pos e92] at hI
        rcases ho : Rf.one (c :: r) with _ | ⟨a, n'⟩
        · rw [ho] at hI; cases hI
        have ho' : Rf.one (s.data.toList.drop k) = some (a, n') := by rw [hd]; exact ho
        obtain ⟨ha0, ha1, hn1, hn4⟩ := Rf.one_bd ho
        rw [ho] at hI
        have HI : Hid (Rf.groupFrom s.data.toList f (k + n') op = some n) := hI
        clear hI hd hc hr e92 ho
        go_wp2_with fail
        refine (one_at s k _ a n' _ hs rfl ho').mono ?_
        rintro e w1 ⟨rfl, q, rfl⟩
        go_wp2_with fail
        go_roundw
        case rel => exact ⟨f, k + n', op, by go_num, rfl, by omega, by omega, hW.trans (below_drewN _ _ _), HI⟩
        case measure => simp [intOf]; omega
      have hb92 : ((s[k].toNat : Int) == 92) = false := by rw [hc]; exact bne_of e92
      rw [if_neg e92] at hI
      by_cases e91 : c = 91
      · have hb : ((s[k].toNat : Int) == 91) = true := by rw [hc, e91]; rfl
        rw [if_pos e91] at hI
        rcases ho : Rf.set r k with _ | ⟨j, fa, inn⟩
        · rw [ho] at hI; cases hI
        have ho' : Rf.set (s.data.toList.drop (k + 1)) k = some (j, fa, inn) := by rw [hr]; exact ho
        have hj := Rf.set_ge ho
        rw [ho] at hI
        have HI : Hid (Rf.groupFrom s.data.toList f j op = some n) := hI
        clear hI hd hc hr e92 e91 ho
        go_wp2_with fail
        refine (set_at s k _ j fa inn _ hs rfl ho').mono ?_
        rintro e w1 ⟨rfl, hB, hW1⟩
        go_wp2_with fail
        go_roundw
        case rel => exact ⟨f, j, op, rfl, rfl, by omega, by omega, hW.trans (hW1.mono hW.size), HI⟩
        case measure => simp [intOf]; omega
      have hb91 : ((s[k].toNat : Int) == 91) = false := by rw [hc]; exact bne_of e91
      rw [if_neg e91] at hI
      by_cases e40 : c = 40
      · have hb : ((s[k].toNat : Int) == 40) = true := by rw [hc, e40]; rfl
        rw [if_pos e40] at hI
        have HI : Hid (Rf.groupFrom s.data.toList f (k + 1) (op + 1) = some n) := hI
        clear hI hd hc hr e92 e91 e40
        go_wp2_with fail
        go_roundw
        case rel => exact ⟨f, k + 1, op + 1, by go_num, rfl, by omega, by omega, hW, HI⟩
        case measure => simp [intOf]; omega
      have hb40 : ((s[k].toNat : Int) == 40) = false := by rw [hc]; exact bne_of e40
      rw [if_neg e40] at hI
      by_cases e41 : c = 41
      · have hb : ((s[k].toNat : Int) == 41) = true := by rw [hc, e41]; rfl
        rw [if_pos e41] at hI
        by_cases h1 : op - 1 = 0
        · rw [if_pos h1] at hI
          have HI : Hid (some (k + 1) = some n) := hI
          have h1' : ((op - 1) == 0) = true := by simp; omega
          clear hI hd hc hr e92 e91 e40 e41 h1
          go_wp2_with fail
          go_ret
          exact ⟨ret_int (by have := Option.some.inj HI.out; omega), hW⟩
        · rw [if_neg h1] at hI
          have HI : Hid (Rf.groupFrom s.data.toList f (k + 1) (op - 1) = some n) := hI
          have h1' : ((op - 1) == 0) = false := by simp; omega
          clear hI hd hc hr e92 e91 e40 e41 h1
          go_wp2_with fail
          go_roundw
          case rel => exact ⟨f, k + 1, op - 1, by go_num, rfl, by omega, by omega, hW, HI⟩
          case measure => simp [intOf]; omega
      have hb41 : ((s[k].toNat : Int) == 41) = false := by rw [hc]; exact bne_of e41
      rw [if_neg e41] at hI
      have HI : Hid (Rf.groupFrom s.data.toList f (k + 1) op = some n) := hI
      clear hI hd hc hr e92 e91 e40 e41
      go_wp2_with fail
      go_roundw
      case rel => exact ⟨f, k + 1, op, by go_num, rfl, by omega, by omega, hW, HI⟩
      case measure => simp [intOf]; omega
  have hb40 : ((s[0].toNat : Int) == 40) = false := by rw [hc]; exact bne_of e40
  have hn : n = 1 := by
    rw [hl] at h
    simp only [Rf.atom, if_neg e92, if_neg e91, if_neg e40, Option.some.injEq] at h; exact h.symm
  subst hn
  clear hd hc hr hl e92 h e91 e40
  go_enter Try.func118, Try.ntmps118
  go_wp2_with fail
  go_ret
  exact ⟨rfl, Below.refl _ _⟩

set_option maxHeartbeats 1000000 in
theorem piece_any (s : ByteArray) (n : Nat) (w : World) (hs : s.size ≤ 40) (h : Rf.piece s.data.toList = some n) :
    Calls Try.prog 87 #[.string s] w fun e w' => e = .returned (.int .i64 n) ∧ Below w.heap.size w w' := by
  rcases ha : Rf.atom s.data.toList with _ | n0
  · simp [Rf.piece, ha] at h
  simp only [Rf.piece, ha] at h
  go_enter Try.func87, Try.ntmps87
  go_wp2_with fail
  refine (atom_any s n0 _ hs ha).mono ?_
  rintro e w1 ⟨rfl, hW⟩
  clear ha
  go_wp2_with fail
  go_loop [3] (fun i => ∃ (f k : Nat), i = .int .i64 k ∧ Hid (Rf.pieceFrom s.data.toList f k = some n)) (fun i => s.size - (intOf i).toNat)
  case atStart => exact ⟨_, n0, rfl, h⟩
  case round =>
    clear h
    obtain ⟨f, k, rfl, HS⟩ := hrel
    rcases f with _ | f
    · exact absurd HS.out (by simp [Rf.pieceFrom])
    have hI := HS.out
    clear HS
    rcases hd : s.data.toList.drop k with _ | ⟨c, r⟩
    · simp only [Rf.pieceFrom, hd, Option.some.injEq] at hI
      have hk : s.size ≤ k := by simpa using hd
      have HI : Hid (k = n) := hI
      clear hd hI
      go_wp2_with fail
      go_ret
      exact ⟨ret_int (by have := HI.out; omega), hW⟩
    obtain ⟨hk, hc, hr⟩ := at_of_drop hd
    simp only [Rf.pieceFrom, hd] at hI
    rw [← hc] at hI
    cases hh : Rf.has Rf.suffixes s[k].toNat
    · rw [hh] at hI
      have HI : Hid (some k = some n) := hI
      have Hh : Hid (Rf.has Rf.suffixes s[k].toNat = false) := hh
      clear hI hd hc hr hh
      go_wp2_with fail
      refine (has_any _ _ _ (by decide)).mono ?_
      rintro e w' ⟨rfl, rfl⟩
      rw [show Rf.has (ByteArray.data { data := #[42, 43, 63, 123] }).toList ↑s[k].toNat = false from Hh.out]
      go_wp2_with fail
      go_ret
      exact ⟨ret_int (by have := Option.some.inj HI.out; omega), hW⟩
    · rw [hh] at hI
      rcases hsf : Rf.suffixed s.data.toList k with _ | n'
      · rw [hsf] at hI; simp at hI
      rw [hsf] at hI
      have hgt : k < n' := Rf.suffixed_gt hsf
      have HI : Hid (Rf.pieceFrom s.data.toList f n' = some n) := hI
      have Hh : Hid (Rf.has Rf.suffixes s[k].toNat = true) := hh
      clear hI hd hc hr hh
      go_wp2_with fail
      refine (has_any _ _ _ (by decide)).mono ?_
      rintro e w' ⟨rfl, rfl⟩
      rw [show Rf.has (ByteArray.data { data := #[42, 43, 63, 123] }).toList ↑s[k].toNat = true from Hh.out]
      go_wp2_with fail
      refine (suffixed_any s k _ n' _ hs rfl hsf).mono ?_
      rintro e w' ⟨rfl, rfl⟩
      go_wp2_with fail
      go_round
      case rel => exact ⟨f, n', rfl, HI⟩
      case measure => simp [intOf]; omega
end Go.Proofs.Ytoaaklhpmhjhkaa
