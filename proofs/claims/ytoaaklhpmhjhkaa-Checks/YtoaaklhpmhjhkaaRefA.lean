/-
  Contracts of the reference's byte functions and of its reader (package munchref, form.go).
-/
import Derived.Test.YtoaaklhpmhjhkaaRows
import Derived.WalkKit
import Derived.WalkSpells
import Derived.WalkLawsBesides
import Derived.Deep.QuietTactic
import Derived.BigQuiet
import Derived.Deep.RegionHeld3
import Derived.Test.YtoaaklhpmhjhkaaPlain
namespace Go.Proofs.Ytoaaklhpmhjhkaa
open Go.RowKit

set_option maxHeartbeats 400000 in
theorem digit_any (c : Int) (w : World) :
    Calls Try.prog 141 #[.int .u8 c] w fun e w' => e = .returned (.bool (Rf.digit c)) ∧ w' = w := by
  go_enter Try.func141, Try.ntmps141
  go_wp2
  all_goals
    go_ret
    refine ⟨ret_bool ?_, rfl⟩
    first | (simp [Rf.digit, *]; done) | (simp [Rf.digit, *]; omega)

set_option maxHeartbeats 400000 in
theorem hex_any (c : Int) (w : World) :
    Calls Try.prog 140 #[.int .u8 c] w fun e w' => e = .returned (.bool (Rf.hex c)) ∧ w' = w := by
  go_enter Try.func140, Try.ntmps140
  go_wp2_with fail
  refine (digit_any c _).mono ?_
  rintro e w' ⟨rfl, rfl⟩
  go_wp2_with fail
  all_goals
    go_ret
    refine ⟨ret_bool ?_, rfl⟩
    first | (simp [Rf.hex, *]; done) | (simp [Rf.hex, *]; omega)

set_option maxHeartbeats 400000 in
theorem has_any (s : ByteArray) (c : Int) (w : World) (hs : s.size ≤ 1000) :
    Calls Try.prog 119 #[.string s, .int .u8 c] w fun e w' => e = .returned (.bool (Rf.has s.data.toList c)) ∧ w' = w := by
  go_enter Try.func119, Try.ntmps119
  go_wp2
  go_loop [5] (fun i => ∃ k : Nat, k ≤ s.size ∧ i = .int .i64 k ∧ Hid (Rf.has s.data.toList c = Rf.has (s.data.toList.drop k) c)) (fun i => s.size - (intOf i).toNat)
  case atStart => exact ⟨0, Nat.zero_le _, rfl, rfl⟩
  case round =>
    obtain ⟨k, hk, rfl, HS⟩ := hrel
    by_cases hlt : k < s.size
    · have hd := drop_cons s k hlt
      have HD : Hid (s.data.toList.drop k = s[k] :: s.data.toList.drop (k + 1)) := hd
      clear hd
      by_cases hc : ((s[k].toNat : Int) == c) = true
      · go_wp2
        go_ret
        refine ⟨ret_bool ?_, rfl⟩
        rw [HS.out, HD.out]; simp [Rf.has, hc]
      · have hc' : ((s[k].toNat : Int) == c) = false := by simpa using hc
        clear hc
        go_wp2
        go_round
        case rel => exact ⟨k + 1, by omega, by go_num, by show _ = _; rw [HS.out, HD.out]; simp [Rf.has, hc']⟩
        case measure => simp [intOf]; omega
    · go_wp2
      go_ret
      refine ⟨ret_bool ?_, rfl⟩
      rw [HS.out, List.drop_eq_nil_of_le (by simp; omega)]; rfl

set_option maxHeartbeats 400000 in
theorem number_any (c : Int) (w : World) (h0 : 0 ≤ c) (h1 : c < 256) (hx : Rf.hex c = true) :
    Calls Try.prog 143 #[.int .u8 c] w fun e w' => e = .returned (.int .i64 (Rf.number c)) ∧ w' = w := by
  cases hd : Rf.digit c
  · have hx2 : 97 ≤ c ∧ c ≤ 102 := by simp [Rf.hex, hd] at hx; exact hx
    go_enter Try.func143, Try.ntmps143
    go_wp2_with fail
    refine (digit_any c _).mono ?_
    rintro e w' ⟨rfl, rfl⟩
    go_wp2_with fail
    go_ret
    refine ⟨ret_int ?_, rfl⟩
    simp [Rf.number, hd]
  · have hx2 : 48 ≤ c ∧ c ≤ 57 := by simp [Rf.digit] at hd; exact hd
    go_enter Try.func143, Try.ntmps143
    go_wp2_with fail
    refine (digit_any c _).mono ?_
    rintro e w' ⟨rfl, rfl⟩
    go_wp2_with fail
    go_ret
    refine ⟨ret_int ?_, rfl⟩
    simp [Rf.number, hd]

/-- The reader's three cells, which may be written. -/
structure Rd (b : Nat) (m bk o : Int) (w : World) : Prop where
  c0 : w.cell? ⟨b, 0, none⟩ = some (.int .i64 m)
  c1 : w.cell? ⟨b, 1, none⟩ = some (.int .i64 bk)
  c2 : w.cell? ⟨b, 2, none⟩ = some (.int .i64 o)
  f0 : w.frozen? ⟨b, 0, none⟩ = false
  f1 : w.frozen? ⟨b, 1, none⟩ = false
  f2 : w.frozen? ⟨b, 2, none⟩ = false

theorem Rd.set0 {b : Nat} {m bk o : Int} {w : World} (h : Rd b m bk o w) (x : Int) : Rd b x bk o (w.setCell ⟨b, 0, none⟩ (.int .i64 x)) := by
  obtain ⟨c0, c1, c2, f0, f1, f2⟩ := h
  refine ⟨?_, ?_, ?_, ?_, ?_, ?_⟩ <;> go_simp
theorem Rd.set1 {b : Nat} {m bk o : Int} {w : World} (h : Rd b m bk o w) (x : Int) : Rd b m x o (w.setCell ⟨b, 1, none⟩ (.int .i64 x)) := by
  obtain ⟨c0, c1, c2, f0, f1, f2⟩ := h
  refine ⟨?_, ?_, ?_, ?_, ?_, ?_⟩ <;> go_simp
theorem Rd.set2 {b : Nat} {m bk o : Int} {w : World} (h : Rd b m bk o w) (x : Int) : Rd b m bk x (w.setCell ⟨b, 2, none⟩ (.int .i64 x)) := by
  obtain ⟨c0, c1, c2, f0, f1, f2⟩ := h
  refine ⟨?_, ?_, ?_, ?_, ?_, ?_⟩ <;> go_simp
theorem Rd.drew {b : Nat} {m bk o : Int} {w : World} (h : Rd b m bk o w) : Rd b m bk o w.drew := ⟨h.c0, h.c1, h.c2, h.f0, h.f1, h.f2⟩
theorem below_set (w : World) (b k : Nat) (v : Value) : Below b w (w.setCell ⟨b, k, none⟩ v) :=
  (Below.refl b w).setCell (p := ⟨b, k, none⟩) (Nat.le_refl b) v
/-- What a method of the reader leaves. -/
def RdPost (b : Nat) (w : World) (x : Rf.RS) (e : Ending) (w' : World) : Prop := e = .returned (.bool x.ok) ∧ Rd b x.m x.bk x.o w' ∧ Below b w w'

set_option maxHeartbeats 400000 in
theorem to_any (b : Nat) (m bk o : Int) (ok : Bool) (m' : Int) (w : World) (h : Rd b m bk o w) :
    Calls Try.prog 139 #[.pointer (some ⟨b, 0, none⟩), .bool ok, .int .i64 m'] w (RdPost b w (Rf.to m bk o ok m')) := by
  cases ok
  · go_enter Try.func139, Try.ntmps139
    go_wp2
    go_ret
    exact ⟨rfl, h, Below.refl _ _⟩
  · have h' := h.set0 m'
    obtain ⟨c0, c1, c2, f0, f1, f2⟩ := h
    go_enter Try.func139, Try.ntmps139
    go_wp2
    go_ret
    exact ⟨rfl, h', below_set _ _ _ _⟩

set_option maxHeartbeats 400000 in
theorem inner_any (b : Nat) (m bk o : Int) (c m' : Int) (w : World) (h : Rd b m bk o w) :
    Calls Try.prog 149 #[.pointer (some ⟨b, 0, none⟩), .int .u8 c, .int .i64 m'] w (RdPost b w (Rf.inner m bk o c m')) := by
  by_cases h92 : c = 92
  · subst h92
    have h' := (h.set1 m').set0 2
    obtain ⟨c0, c1, c2, f0, f1, f2⟩ := h
    go_enter Try.func149, Try.ntmps149
    go_wp2
    go_ret
    exact ⟨rfl, h', (below_set _ _ _ _).trans (below_set _ _ _ _)⟩
  · have hb : (c == 92) = false := by simpa using h92
    have hi : Rf.inner m bk o c m' = Rf.to m bk o (!Rf.has Rf.notInner c) m' := by unfold Rf.inner; rw [if_neg h92]
    rw [hi]; clear hi h92
    go_enter Try.func149, Try.ntmps149
    go_wp2_with fail
    refine (has_any _ c _ (by decide)).mono ?_
    rintro e w' ⟨rfl, rfl⟩
    go_wp2_with fail
    refine (to_any b m bk o _ m' _ h).mono ?_
    rintro e w1 ⟨rfl, h1, h2⟩
    go_wp2_with fail
    go_ret
    exact ⟨rfl, h1, h2⟩
end Go.Proofs.Ytoaaklhpmhjhkaa
