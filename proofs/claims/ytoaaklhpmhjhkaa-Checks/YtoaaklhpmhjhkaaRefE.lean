/-
  Contracts of the reference's one and set.
-/
import Derived.Test.YtoaaklhpmhjhkaaRefD
import Derived.Test.YtoaaklhpmhjhkaaPlainB
namespace Go.Proofs.Ytoaaklhpmhjhkaa
open Go.RowKit

theorem tuple2 {a a' b b' : Int} (h : a = a') (h' : b = b') : Ending.returned (.tuple #[.int .i64 a, .int .i64 b]) = .returned (.tuple #[.int .i64 a', .int .i64 b']) := by rw [h, h']

set_option maxRecDepth 100000 in
set_option maxHeartbeats 1000000 in
theorem one_any (s : ByteArray) (k : Nat) (v : Int) (n : Nat) (w : World) (hs : s.size ≤ 40) (h : Rf.one (s.data.toList.drop k) = some (v, n)) :
    Calls Try.prog 116 #[.string s, .int .i64 k] w fun e w' => e = .returned (.tuple #[.int .i64 v, .int .i64 ((k + n : Nat) : Int)]) ∧ ∃ q, w' = w.drewN q := by
  rcases hd : s.data.toList.drop k with _ | ⟨c, r⟩
  · rw [hd] at h; cases h
  obtain ⟨hk, hc, hr⟩ := at_of_drop hd
  rw [hd] at h
  by_cases e92 : c = 92
  · subst e92
    have hb : ((s[k].toNat : Int) == 92) = true := by rw [hc]; rfl
    rcases r with _ | ⟨d, r'⟩
    · cases h
    obtain ⟨hk1, hc1, hr1⟩ := at_of_drop hr
    clear hd hc hr
    by_cases e110 : d = 110
    · have hb1 : ((s[k + 1].toNat : Int) == 110) = true := by rw [hc1, e110]; rfl
      have he : v = 10 ∧ n = 2 := by simp [Rf.one, e110] at h; exact ⟨h.1.symm, h.2.symm⟩
      obtain ⟨rfl, rfl⟩ := he
      clear hc1 hr1 h e110
      go_enter Try.func116, Try.ntmps116
      go_wp2_with fail
      go_ret2
      exact ⟨tuple2 rfl (by omega), 0, rfl⟩
    have hb1 : ((s[k + 1].toNat : Int) == 110) = false := by rw [hc1]; exact bne_of e110
    by_cases e116 : d = 116
    · have hb2 : ((s[k + 1].toNat : Int) == 116) = true := by rw [hc1, e116]; rfl
      have he : v = 9 ∧ n = 2 := by simp [Rf.one, e116] at h; exact ⟨h.1.symm, h.2.symm⟩
      obtain ⟨rfl, rfl⟩ := he
      clear hc1 hr1 h e110 e116
      go_enter Try.func116, Try.ntmps116
      go_wp2_with fail
      go_ret2
      exact ⟨tuple2 rfl (by omega), 0, rfl⟩
    have hb2 : ((s[k + 1].toNat : Int) == 116) = false := by rw [hc1]; exact bne_of e116
    by_cases e120 : d = 120
    · have hb3 : ((s[k + 1].toNat : Int) == 120) = true := by rw [hc1, e120]; rfl
      subst e120
      rcases r' with _ | ⟨x, _ | ⟨y, r''⟩⟩
      · simp [Rf.one] at h
      · simp [Rf.one] at h
      obtain ⟨hk2, hc2, hr2⟩ := at_of_drop hr1
      obtain ⟨hk3, hc3, hr3⟩ := at_of_drop hr2
      have hx : Rf.hex x.toNat = true ∧ Rf.hex y.toNat = true ∧ v = Rf.number x.toNat * 16 + Rf.number y.toNat ∧ n = 4 := by
        simp only [Rf.one, if_true] at h
        rw [if_neg (by decide), if_neg (by decide)] at h
        by_cases hxy : (Rf.hex x.toNat && Rf.hex y.toNat) = true
        · rw [if_pos hxy] at h
          simp only [Option.some.injEq, Prod.mk.injEq] at h
          rw [Bool.and_eq_true] at hxy
          exact ⟨hxy.1, hxy.2, h.1.symm, h.2.symm⟩
        · rw [if_neg hxy] at h; cases h
      obtain ⟨hx1, hx2, rfl, rfl⟩ := hx
      have hk2' : k + 2 < s.size := hk2
      have hk3' : k + 3 < s.size := hk3
      have hc2' : s[k + 2] = x := hc2
      have hc3' : s[k + 3] = y := hc3
      rw [← hc2'] at hx1; rw [← hc3'] at hx2
      rw [← hc2', ← hc3']
      have i2 : (0 : Int) ≤ (k : Int) + 2 ∧ (k : Int) + 2 < (s.size : Int) := by omega
      have i3 : (0 : Int) ≤ (k : Int) + 3 ∧ (k : Int) + 3 < (s.size : Int) := by omega
      have l1 := byte_lt s[k + 2]
      have l2 := byte_lt s[k + 3]
      have n1 := Rf.number_lt (s[k + 2].toNat) hx1
      have n2 := Rf.number_lt (s[k + 3].toNat) hx2
      clear hc1 hr1 h e110 e116 hr2 hr3 hc2 hc3 hc2' hc3' hk2 hk3
      go_enter Try.func116, Try.ntmps116
      go_wp2_with fail
      go_quiet ((go_at_call 143; exact Calls.quiet_of_same (number_any _ _ (by omega) (by assumption) (by assumption))))
      go_wp2_with fail
      go_ret2
      exact ⟨tuple2 (by first | rfl | omega) (by omega), nq, rfl⟩
    have hb3 : ((s[k + 1].toNat : Int) == 120) = false := by rw [hc1]; exact bne_of e120
    have he : v = s[k + 1].toNat ∧ n = 2 := by simp [Rf.one, e110, e116, e120] at h; rw [hc1]; exact ⟨h.1.symm, h.2.symm⟩
    obtain ⟨rfl, rfl⟩ := he
    clear hc1 hr1 h e110 e116 e120
    go_enter Try.func116, Try.ntmps116
    go_wp2_with fail
    go_ret2
    exact ⟨tuple2 (byte_wrap _) (by omega), 0, rfl⟩
  · have hb : ((s[k].toNat : Int) == 92) = false := by rw [hc]; exact bne_of e92
    have he : v = s[k].toNat ∧ n = 1 := by simp [Rf.one, e92] at h; rw [hc]; exact ⟨h.1.symm, h.2.symm⟩
    obtain ⟨rfl, rfl⟩ := he
    clear hc hr h e92 hd
    go_enter Try.func116, Try.ntmps116
    go_wp2_with fail
    go_ret2
    exact ⟨tuple2 (byte_wrap _) (by omega), 0, rfl⟩

theorem one_at (s : ByteArray) (k : Nat) (i : Int) (v : Int) (n : Nat) (w : World) (hs : s.size ≤ 40) (hi : i = k) (h : Rf.one (s.data.toList.drop k) = some (v, n)) :
    Calls Try.prog 116 #[.string s, .int .i64 i] w fun e w' => e = .returned (.tuple #[.int .i64 v, .int .i64 ((k + n : Nat) : Int)]) ∧ ∃ q, w' = w.drewN q := by
  subst hi; exact one_any s k v n w hs h

/-- A row of 256 bools at block g, which may be written. -/
def BRow (g : Nat) (f : Nat → Bool) (w : World) : Prop := ∀ k, k < 256 → w.cell? ⟨g, k, none⟩ = some (.bool (f k)) ∧ w.frozen? ⟨g, k, none⟩ = false
theorem BRow.drewN {g : Nat} {f : Nat → Bool} {w : World} (h : BRow g f w) (q : Nat) : BRow g f (w.drewN q) := fun k hk => by
  have := h k hk
  refine ⟨?_, ?_⟩ <;> go_simp
theorem BRow.set {g : Nat} {f : Nat → Bool} {w : World} (h : BRow g f w) (j : Nat) (hj : j < 256) (b : Bool) : BRow g (fun k => if k = j then b else f k) (w.setCell ⟨g, j, none⟩ (.bool b)) := fun k hk => by
  obtain ⟨hc, hf⟩ := h k hk
  obtain ⟨hc', hf'⟩ := h j hj
  refine ⟨?_, ?_⟩
  · by_cases e : k = j
    · subst e; simp; go_simp
    · simp only [if_neg e]
      rw [World.cell?_setCell_other _ _ _ _ (by intro he; cases he; exact e rfl)]; exact hc
  · go_simp
theorem BRow.congr {g : Nat} {f f' : Nat → Bool} {w : World} (h : BRow g f w) (e : ∀ k, k < 256 → f k = f' k) : BRow g f' w := fun k hk => by
  rw [← e k hk]; exact h k hk
theorem below_drewN (B : Nat) (w : World) (q : Nat) : Below B w (w.drewN q) := ⟨rfl, rfl, rfl, Nat.le_refl _, fun _ _ => rfl⟩
end Go.Proofs.Ytoaaklhpmhjhkaa
