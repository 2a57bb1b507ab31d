/-
  Contracts of the reference's reader: read, form, deep.
-/
import Derived.Test.YtoaaklhpmhjhkaaRefCa
namespace Go.Proofs.Ytoaaklhpmhjhkaa
open Go.RowKit

set_option maxHeartbeats 1000000 in
theorem read_escape (b : Nat) (bk o : Int) (c : Int) (w : World) (h : Rd b 2 bk o w) :
    Calls Try.prog 115 #[.pointer (some ⟨b, 0, none⟩), .int .u8 c] w (RdPost b w (Rf.read 2 bk o c)) := by
  obtain ⟨c0, c1, c2, f0, f1, f2⟩ := id h
  by_cases e : c = 120
  · subst e
    go_enter Try.func115, Try.ntmps115
    go_wp2_with fail
    refine (to_any b 2 bk o true 3 _ h).mono ?_
    rintro e w1 ⟨rfl, hr, hb⟩
    go_wp2_with fail
    go_ret
    exact ⟨rfl, hr, hb⟩
  · have hx : Rf.read 2 bk o c = Rf.to 2 bk o (c == 110 || c == 116 || Rf.has Rf.marks c) bk := by simp [Rf.read, *]
    have e120 : (c == 120) = false := by simpa using e
    rw [hx]; clear hx e
    cases e110 : (c == 110)
    · cases e116 : (c == 116)
      · go_enter Try.func115, Try.ntmps115
        go_wp2_with fail
        go_region_held3 (fun w' => w'.cell? ⟨b, 1, none⟩ = some (.int .i64 bk)) (go_keep) (first | (go_at_call 119; refine (has_any _ c _ (by decide)).mono ?_; rintro e w' ⟨rfl, rfl⟩) | (go_at_call 139; refine (to_any b 2 bk o _ bk _ (by exact h.drew)).mono ?_; rintro e w' ⟨rfl, hr, hb⟩; have hc1 : w'.cell? ⟨b, 1, none⟩ = some (.int .i64 bk) := hr.c1; have hbb : Below b w w' := (Below.refl _ _).drew.trans hb; clear hb))
        go_wp2_with fail
        go_ret
        exact ⟨rfl, hr, hbb⟩
      · have hc : c = 116 := by simpa using e116
        subst hc
        exact read_escape_t b bk o w h
    · have hc : c = 110 := by simpa using e110
      subst hc
      exact read_escape_n b bk o w h

set_option maxHeartbeats 1000000 in
theorem read_any (b : Nat) (m bk o : Int) (c : Int) (w : World) (h : Rd b m bk o w) (o0 : -1000 ≤ o) (o1 : o ≤ 1000) :
    Calls Try.prog 115 #[.pointer (some ⟨b, 0, none⟩), .int .u8 c] w (RdPost b w (Rf.read m bk o c)) := by
  by_cases e : m = 2
  · subst e; exact read_escape b bk o c w h
  obtain ⟨c0, c1, c2, f0, f1, f2⟩ := id h
  by_cases e : m = 3
  · subst e
    go_enter Try.func115, Try.ntmps115
    go_wp2_with fail
    refine (hex_any c _).mono ?_
    rintro e w1 ⟨rfl, rfl⟩
    go_wp2_with fail
    refine (to_any b 3 bk o _ 4 _ h).mono ?_
    rintro e w1 ⟨rfl, hr, hb⟩
    go_wp2_with fail
    go_ret
    exact ⟨rfl, hr, hb⟩
  by_cases e : m = 4
  · subst e
    go_enter Try.func115, Try.ntmps115
    go_wp2_with fail
    go_region_held3 (fun w' => w'.cell? ⟨b, 1, none⟩ = some (.int .i64 bk)) (go_keep) (first | (go_at_call 140; refine (hex_any c _).mono ?_; rintro e w' ⟨rfl, rfl⟩) | (go_at_call 139; refine (to_any b 4 bk o _ bk _ (by exact h.drew)).mono ?_; rintro e w' ⟨rfl, hr, hb⟩; have hc1 : w'.cell? ⟨b, 1, none⟩ = some (.int .i64 bk) := hr.c1; have hbb : Below b w w' := (Below.refl _ _).drew.trans hb; clear hb))
    go_wp2_with fail
    go_ret
    exact ⟨rfl, hr, hbb⟩
  by_cases e : m = 5
  · subst e
    go_enter Try.func115, Try.ntmps115
    go_wp2_with fail
    refine (digit_any c _).mono ?_
    rintro e w1 ⟨rfl, rfl⟩
    go_wp2_with fail
    refine (to_any b 5 bk o _ 6 _ h).mono ?_
    rintro e w1 ⟨rfl, hr, hb⟩
    go_wp2_with fail
    go_ret
    exact ⟨rfl, hr, hb⟩
  by_cases e : m = 6
  · subst e
    by_cases e : c = 44
    · subst e
      go_enter Try.func115, Try.ntmps115
      go_wp2_with fail
      refine (to_any b 6 bk o true 7 _ h).mono ?_
      rintro e w1 ⟨rfl, hr, hb⟩
      go_wp2_with fail
      go_ret
      exact ⟨rfl, hr, hb⟩
    have hx : Rf.read 6 bk o c = Rf.to 6 bk o (c == 125) 1 := by simp [Rf.read, *]
    have hc2 : (c == 44) = false := by simp; omega
    rw [hx]; clear hx
    go_enter Try.func115, Try.ntmps115
    go_wp2_with fail
    refine (to_any b 6 bk o _ 1 _ h).mono ?_
    rintro e w1 ⟨rfl, hr, hb⟩
    go_wp2_with fail
    go_ret
    exact ⟨rfl, hr, hb⟩
  by_cases e : m = 7
  · subst e
    go_enter Try.func115, Try.ntmps115
    go_wp2_with fail
    refine (digit_any c _).mono ?_
    rintro e w1 ⟨rfl, rfl⟩
    go_wp2_with fail
    refine (to_any b 7 bk o _ 8 _ h).mono ?_
    rintro e w1 ⟨rfl, hr, hb⟩
    go_wp2_with fail
    go_ret
    exact ⟨rfl, hr, hb⟩
  by_cases e : m = 8
  · subst e
    go_enter Try.func115, Try.ntmps115
    go_wp2_with fail
    refine (to_any b 8 bk o _ 1 _ h).mono ?_
    rintro e w1 ⟨rfl, hr, hb⟩
    go_wp2_with fail
    go_ret
    exact ⟨rfl, hr, hb⟩
  have hx : Rf.read m bk o c = Rf.rest m bk o c := by simp [Rf.read, *]
  rw [hx]; clear hx
  have e2 : (m == 2) = false := by simp; omega
  have e3 : (m == 3) = false := by simp; omega
  have e4 : (m == 4) = false := by simp; omega
  have e5 : (m == 5) = false := by simp; omega
  have e6 : (m == 6) = false := by simp; omega
  have e7 : (m == 7) = false := by simp; omega
  have e8 : (m == 8) = false := by simp; omega
  go_enter Try.func115, Try.ntmps115
  go_wp2_with fail
  refine (rest_any b m bk o c _ h o0 o1).mono ?_
  rintro e w1 ⟨rfl, hr, hb⟩
  go_wp2_with fail
  go_ret
  exact ⟨rfl, hr, hb⟩
end Go.Proofs.Ytoaaklhpmhjhkaa
