/-
  Contracts of the reference's reader, the greater ones (package munchref, form.go).
-/
import Derived.Test.YtoaaklhpmhjhkaaRefA
namespace Go.Proofs.Ytoaaklhpmhjhkaa
open Go.RowKit

set_option maxHeartbeats 1000000 in
theorem outside_any (b : Nat) (m bk o : Int) (c : Int) (w : World) (h : Rd b m bk o w) (o0 : -1000 ≤ o) (o1 : o ≤ 1000) :
    Calls Try.prog 150 #[.pointer (some ⟨b, 0, none⟩), .int .u8 c] w (RdPost b w (Rf.outside m bk o c)) := by
  have h1 := h.set1 1
  have h2 := h.set2 (o + 1)
  have h3 := h.set2 (o - 1)
  obtain ⟨c0, c1, c2, f0, f1, f2⟩ := id h
  by_cases e : c = 92
  · subst e
    go_enter Try.func150, Try.ntmps150
    go_wp2_with fail
    refine (to_any b m 1 o true 2 _ h1).mono ?_
    rintro e w1 ⟨rfl, hr, hb⟩
    go_wp2_with fail
    go_ret
    exact ⟨rfl, hr, (below_set _ _ _ _).trans hb⟩
  by_cases e : c = 91
  · subst e
    go_enter Try.func150, Try.ntmps150
    go_wp2_with fail
    refine (to_any b m bk o true 9 _ h).mono ?_
    rintro e w1 ⟨rfl, hr, hb⟩
    go_wp2_with fail
    go_ret
    exact ⟨rfl, hr, hb⟩
  by_cases e : c = 40
  · subst e
    go_enter Try.func150, Try.ntmps150
    go_wp2_with fail
    refine (to_any b m bk (o + 1) true 0 _ h2).mono ?_
    rintro e w1 ⟨rfl, hr, hb⟩
    go_wp2_with fail
    go_ret
    exact ⟨rfl, hr, (below_set _ _ _ _).trans hb⟩
  by_cases e : c = 41
  · subst e
    go_enter Try.func150, Try.ntmps150
    go_wp2_with fail
    refine (to_any b m bk (o - 1) _ 1 _ h3).mono ?_
    rintro e w1 ⟨rfl, hr, hb⟩
    go_wp2_with fail
    go_ret
    exact ⟨rfl, hr, (below_set _ _ _ _).trans hb⟩
  by_cases e : c = 124
  · subst e
    go_enter Try.func150, Try.ntmps150
    go_wp2_with fail
    refine (to_any b m bk o true 0 _ h).mono ?_
    rintro e w1 ⟨rfl, hr, hb⟩
    go_wp2_with fail
    go_ret
    exact ⟨rfl, hr, hb⟩
  by_cases e : c = 42 ∨ c = 43 ∨ c = 63
  · have hx : Rf.outside m bk o c = ⟨m == 1, m, bk, o⟩ := by simp [Rf.outside, *]
    rw [hx]; clear hx
    rcases e with e | e | e <;>
    · subst e
      go_enter Try.func150, Try.ntmps150
      go_wp2_with fail
      go_ret
      exact ⟨rfl, h, Below.refl _ _⟩
  have e42 : (c == 42) = false := by simp; omega
  have e43 : (c == 43) = false := by simp; omega
  have e63 : (c == 63) = false := by simp; omega
  by_cases e : c = 123
  · subst e
    go_enter Try.func150, Try.ntmps150
    go_wp2_with fail
    refine (to_any b m bk o _ 5 _ h).mono ?_
    rintro e w1 ⟨rfl, hr, hb⟩
    go_wp2_with fail
    go_ret
    exact ⟨rfl, hr, hb⟩
  by_cases e : c = 93 ∨ c = 125
  · have hx : Rf.outside m bk o c = ⟨false, m, bk, o⟩ := by simp [Rf.outside, *]
    rw [hx]; clear hx
    rcases e with e | e <;>
    · subst e
      go_enter Try.func150, Try.ntmps150
      go_wp2_with fail
      go_ret
      exact ⟨rfl, h, Below.refl _ _⟩
  have hx : Rf.outside m bk o c = Rf.to m bk o true 1 := by simp [Rf.outside, Rf.to, *]
  rw [hx]; clear hx
  have e92 : (c == 92) = false := by simp; omega
  have e91 : (c == 91) = false := by simp; omega
  have e40 : (c == 40) = false := by simp; omega
  have e41 : (c == 41) = false := by simp; omega
  have e124 : (c == 124) = false := by simp; omega
  have e123 : (c == 123) = false := by simp; omega
  have e93 : (c == 93) = false := by simp; omega
  have e125 : (c == 125) = false := by simp; omega
  go_enter Try.func150, Try.ntmps150
  go_wp2_with fail
  refine (to_any b m bk o true 1 _ h).mono ?_
  rintro e w1 ⟨rfl, hr, hb⟩
  go_wp2_with fail
  go_ret
  exact ⟨rfl, hr, hb⟩

set_option maxHeartbeats 1000000 in
theorem rest_any (b : Nat) (m bk o : Int) (c : Int) (w : World) (h : Rd b m bk o w) (o0 : -1000 ≤ o) (o1 : o ≤ 1000) :
    Calls Try.prog 142 #[.pointer (some ⟨b, 0, none⟩), .int .u8 c] w (RdPost b w (Rf.rest m bk o c)) := by
  obtain ⟨c0, c1, c2, f0, f1, f2⟩ := id h
  by_cases e : m = 9
  · subst e
    by_cases e : c = 94
    · subst e
      go_enter Try.func142, Try.ntmps142
      go_wp2_with fail
      refine (to_any b 9 bk o true 10 _ h).mono ?_
      rintro e w1 ⟨rfl, hr, hb⟩
      go_wp2_with fail
      go_ret
      exact ⟨rfl, hr, hb⟩
    · have hx : Rf.rest 9 bk o c = Rf.inner 9 bk o c 11 := by simp [Rf.rest, *]
      have hc : (c == 94) = false := by simpa using e
      rw [hx]; clear hx e
      go_enter Try.func142, Try.ntmps142
      go_wp2_with fail
      refine (inner_any b 9 bk o c 11 _ h).mono ?_
      rintro e w1 ⟨rfl, hr, hb⟩
      go_wp2_with fail
      go_ret
      exact ⟨rfl, hr, hb⟩
  by_cases e : m = 10
  · subst e
    go_enter Try.func142, Try.ntmps142
    go_wp2_with fail
    refine (inner_any b 10 bk o c 11 _ h).mono ?_
    rintro e w1 ⟨rfl, hr, hb⟩
    go_wp2_with fail
    go_ret
    exact ⟨rfl, hr, hb⟩
  by_cases e : m = 11
  · subst e
    by_cases e : c = 45
    · subst e
      go_enter Try.func142, Try.ntmps142
      go_wp2_with fail
      refine (to_any b 11 bk o true 12 _ h).mono ?_
      rintro e w1 ⟨rfl, hr, hb⟩
      go_wp2_with fail
      go_ret
      exact ⟨rfl, hr, hb⟩
    by_cases e : c = 93
    · subst e
      go_enter Try.func142, Try.ntmps142
      go_wp2_with fail
      refine (to_any b 11 bk o true 1 _ h).mono ?_
      rintro e w1 ⟨rfl, hr, hb⟩
      go_wp2_with fail
      go_ret
      exact ⟨rfl, hr, hb⟩
    have hx : Rf.rest 11 bk o c = Rf.inner 11 bk o c 11 := by simp [Rf.rest, *]
    have hc : (c == 45) = false := by simp; omega
    have hc2 : (c == 93) = false := by simp; omega
    rw [hx]; clear hx
    go_enter Try.func142, Try.ntmps142
    go_wp2_with fail
    refine (inner_any b 11 bk o c 11 _ h).mono ?_
    rintro e w1 ⟨rfl, hr, hb⟩
    go_wp2_with fail
    go_ret
    exact ⟨rfl, hr, hb⟩
  by_cases e : m = 12
  · subst e
    go_enter Try.func142, Try.ntmps142
    go_wp2_with fail
    refine (inner_any b 12 bk o c 13 _ h).mono ?_
    rintro e w1 ⟨rfl, hr, hb⟩
    go_wp2_with fail
    go_ret
    exact ⟨rfl, hr, hb⟩
  by_cases e : m = 13
  · subst e
    by_cases e : c = 93
    · subst e
      go_enter Try.func142, Try.ntmps142
      go_wp2_with fail
      refine (to_any b 13 bk o true 1 _ h).mono ?_
      rintro e w1 ⟨rfl, hr, hb⟩
      go_wp2_with fail
      go_ret
      exact ⟨rfl, hr, hb⟩
    have hx : Rf.rest 13 bk o c = Rf.inner 13 bk o c 11 := by simp [Rf.rest, *]
    have hc2 : (c == 93) = false := by simp; omega
    rw [hx]; clear hx
    go_enter Try.func142, Try.ntmps142
    go_wp2_with fail
    refine (inner_any b 13 bk o c 11 _ h).mono ?_
    rintro e w1 ⟨rfl, hr, hb⟩
    go_wp2_with fail
    go_ret
    exact ⟨rfl, hr, hb⟩
  have hx : Rf.rest m bk o c = Rf.outside m bk o c := by simp [Rf.rest, *]
  rw [hx]; clear hx
  have e9 : (m == 9) = false := by simp; omega
  have e10 : (m == 10) = false := by simp; omega
  have e11 : (m == 11) = false := by simp; omega
  have e12 : (m == 12) = false := by simp; omega
  have e13 : (m == 13) = false := by simp; omega
  go_enter Try.func142, Try.ntmps142
  go_wp2_with fail
  refine (outside_any b m bk o c _ h o0 o1).mono ?_
  rintro e w1 ⟨rfl, hr, hb⟩
  go_wp2_with fail
  go_ret
  exact ⟨rfl, hr, hb⟩
end Go.Proofs.Ytoaaklhpmhjhkaa
