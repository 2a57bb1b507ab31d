/-
  Contracts of within, classes and heads, of the reference and of the program.
-/
import Derived.Test.YtoaaklhpmhjhkaaEncB
namespace Go.Proofs.Ytoaaklhpmhjhkaa
open Go.RowKit

/-- How many classes the first k numbers have; none: they are none. -/
def clsTo (f : Nat → Int) : Nat → Option Nat
  | 0 => some 0
  | k + 1 => match clsTo f k with
    | none => none
    | some n => if f k < 0 ∨ (n : Int) < f k then none else if f k = n then some (n + 1) else some n
def cls (f : Nat → Int) (n : Nat) : Nat := if n = 256 then (clsTo f 256).getD 0 else 0
theorem clsTo_none {f : Nat → Int} {k : Nat} (h : clsTo f k = none) : ∀ d, clsTo f (k + d) = none
  | 0 => h
  | d + 1 => by rw [← Nat.add_assoc, clsTo, clsTo_none h d]
theorem clsTo_le {f : Nat → Int} : ∀ {k n : Nat}, clsTo f k = some n → n ≤ k
  | 0, n, h => by simp [clsTo] at h; omega
  | k + 1, n, h => by
    rw [clsTo] at h
    rcases hc : clsTo f k with _ | m
    · rw [hc] at h; cases h
    · have := clsTo_le hc
      rw [hc] at h
      simp only at h
      split at h
      · cases h
      · split at h
        · simp at h; omega
        · simp at h; omega
theorem cls_le (f : Nat → Int) (n : Nat) : cls f n ≤ 256 := by
  unfold cls
  split
  · rcases h : clsTo f 256 with _ | m
    · simp
    · simpa using clsTo_le h
  · omega

/-- It answers whether P, and leaves the world as it is. -/
def BPost (P : Prop) (w : World) (e : Ending) (w' : World) : Prop := ∃ b, e = .returned (.bool b) ∧ (b = true ↔ P) ∧ w' = w
theorem BPost.t {P : Prop} {w : World} (h : P) : BPost P w (.returned (.bool true)) w := ⟨true, rfl, by simpa using h, rfl⟩
theorem BPost.f {P : Prop} {w : World} (h : ¬ P) : BPost P w (.returned (.bool false)) w := ⟨false, rfl, by simpa using h, rfl⟩

set_option maxHeartbeats 1000000 in
theorem refWithin_any (ad : Option Addr) (n cap : Nat) (f : Nat → Int) (lo hi : Int) (w : World) (hn : n ≤ maxLen) (h : IL ad f n w) :
    Calls Try.prog 78 #[.slice ad n cap, .int .i64 lo, .int .i64 hi] w (BPost (∀ i, i < n → lo ≤ f i ∧ f i ≤ hi) w) := by
  unfold maxLen at hn
  have H : Hid (IL ad f n w) := h
  clear h
  go_enter Try.func78, Try.ntmps78
  go_wp2_with fail
  go_loop [7] (fun i => ∃ k : Nat, k ≤ n ∧ i = .int .i64 k ∧ Hid (∀ i, i < k → lo ≤ f i ∧ f i ≤ hi)) (fun i => n - (intOf i).toNat)
  case atStart => exact ⟨0, by omega, rfl, fun i hi => by omega⟩
  case round =>
    obtain ⟨k, hk, rfl, HK⟩ := hrel
    by_cases hlt : k < n
    · have hlt' : (k : Int) < (n : Int) := by omega
      obtain ⟨b, off, rfl, c1⟩ := H.out k hlt
      by_cases h1 : f k < lo
      · go_wp2_with fail
        go_ret
        exact BPost.f (fun h => by have := h k hlt; omega)
      · by_cases h2 : hi < f k
        · go_wp2_with fail
          go_ret
          exact BPost.f (fun h => by have := h k hlt; omega)
        · go_wp2_with fail
          go_round
          case rel => exact ⟨k + 1, by omega, by go_num, fun i hi' => by
            by_cases e : i = k
            · subst e; omega
            · exact HK.out i (by omega)⟩
          case measure => simp [intOf]; omega
    · have hge : ¬ (k : Int) < (n : Int) := by omega
      have hkn : k = n := by omega
      go_wp2_with fail
      go_ret
      exact BPost.t (fun i hi' => HK.out i (by omega))

set_option maxHeartbeats 1000000 in
theorem tabWithin_any (ad : Option Addr) (n cap : Nat) (f : Nat → Int) (lo hi : Int) (w : World) (hn : n ≤ maxLen) (h : IL ad f n w) :
    Calls Try.prog 125 #[.slice ad n cap, .int .i64 lo, .int .i64 hi] w (BPost (∀ i, i < n → lo ≤ f i ∧ f i ≤ hi) w) := by
  unfold maxLen at hn
  have H : Hid (IL ad f n w) := h
  clear h
  go_enter Try.func125, Try.ntmps125
  go_wp2_with fail
  go_loop [11] (fun i => ∃ k : Nat, k ≤ n ∧ i = .int .i64 k ∧ Hid (∀ i, i < k → lo ≤ f i ∧ f i ≤ hi)) (fun i => n - (intOf i).toNat)
  case atStart => exact ⟨0, by omega, rfl, fun i hi => by omega⟩
  case round =>
    obtain ⟨k, hk, rfl, HK⟩ := hrel
    by_cases hlt : k < n
    · have hlt' : (k : Int) < (n : Int) := by omega
      obtain ⟨b, off, rfl, c1⟩ := H.out k hlt
      by_cases h1 : f k < lo
      · go_wp2_with fail
        go_ret
        exact BPost.f (fun h => by have := h k hlt; omega)
      · by_cases h2 : hi < f k
        · go_wp2_with fail
          go_ret
          exact BPost.f (fun h => by have := h k hlt; omega)
        · go_wp2_with fail
          go_round
          case rel => exact ⟨k + 1, by omega, by go_num, fun i hi' => by
            by_cases e : i = k
            · subst e; omega
            · exact HK.out i (by omega)⟩
          case measure => simp [intOf]; omega
    · have hge : ¬ (k : Int) < (n : Int) := by omega
      have hkn : k = n := by omega
      go_wp2_with fail
      go_ret
      exact BPost.t (fun i hi' => HK.out i (by omega))

set_option maxHeartbeats 1000000 in
theorem refClasses_any (ad : Option Addr) (n cap : Nat) (f : Nat → Int) (w : World) (hn : n ≤ maxLen) (h : IL ad f n w) :
    Calls Try.prog 56 #[.slice ad n cap] w fun e w' => e = .returned (.int .i64 (cls f n)) ∧ w' = w := by
  unfold maxLen at hn
  by_cases h256 : n = 256
  · subst h256
    have H : Hid (IL ad f 256 w) := h
    clear h hn
    go_enter Try.func56, Try.ntmps56
    go_wp2_with fail
    go_loop [3, 4] (fun c i => ∃ k m : Nat, k ≤ 256 ∧ i = .int .i64 k ∧ c = .int .i64 m ∧ m ≤ k ∧ Hid (clsTo f k = some m)) (fun _ i => 256 - (intOf i).toNat)
    case atStart => exact ⟨0, 0, by omega, rfl, rfl, by omega, rfl⟩
    case round =>
      obtain ⟨k, m, hk, rfl, rfl, hm, HK⟩ := hrel
      by_cases hlt : k < 256
      · have hlt' : (k : Int) < 256 := by omega
        obtain ⟨b, off, rfl, c1⟩ := H.out k hlt
        have HS : Hid (clsTo f (k + 1) = if f k < 0 ∨ (m : Int) < f k then none else if f k = m then some (m + 1) else some m) := by show _ = _; rw [clsTo, HK.out]
        have HC : Hid (cls f 256 = (clsTo f 256).getD 0) := rfl
        have HN : Hid (clsTo f (k + 1) = none → clsTo f 256 = none) := fun h => by have := clsTo_none h (256 - (k + 1)); rwa [show k + 1 + (256 - (k + 1)) = 256 by omega] at this
        by_cases h1 : f k < 0
        · go_wp2_with fail
          go_ret
          refine ⟨ret_int ?_, rfl⟩
          rw [HC.out, HN.out (by rw [HS.out, if_pos (Or.inl h1)])]; rfl
        · by_cases h2 : (m : Int) < f k
          · go_wp2_with fail
            go_ret
            refine ⟨ret_int ?_, rfl⟩
            rw [HC.out, HN.out (by rw [HS.out, if_pos (Or.inr h2)])]; rfl
          · by_cases h3 : f k = m
            · have hb : (f k == (m : Int)) = true := by simpa using h3
              have HS2 : Hid (clsTo f (k + 1) = some (m + 1)) := by show _ = _; rw [HS.out, if_neg (by omega), if_pos h3]
              clear h3 HS HN HC
              go_wp2_with fail
              go_round
              case rel => exact ⟨k + 1, m + 1, by omega, by go_num, by go_num, by omega, HS2.out⟩
              case measure => simp [intOf]; omega
            · have hb : (f k == (m : Int)) = false := by simpa using h3
              have HS2 : Hid (clsTo f (k + 1) = some m) := by show _ = _; rw [HS.out, if_neg (by omega), if_neg h3]
              clear h3 HS HN HC
              go_wp2_with fail
              go_round
              case rel => exact ⟨k + 1, m, by omega, by go_num, rfl, by omega, HS2.out⟩
              case measure => simp [intOf]; omega
      · have hge : ¬ (k : Int) < 256 := by omega
        have hkn : k = 256 := by omega
        subst hkn
        go_wp2_with fail
        go_ret
        refine ⟨ret_int ?_, rfl⟩
        rw [cls, if_pos rfl, HK.out]; rfl
  · have hb : ((n : Int) == 256) = false := beq_eq_false_iff_ne.2 (by omega)
    have hb2 : ((n : Int) != 256) = true := by simp; omega
    have HC : Hid (cls f n = 0) := if_neg h256
    clear h h256
    go_enter Try.func56, Try.ntmps56
    go_wp2_with fail
    go_ret
    exact ⟨ret_int (by rw [HC.out]; rfl), rfl⟩

set_option maxHeartbeats 1000000 in
theorem tabClasses_any (ad : Option Addr) (n cap : Nat) (f : Nat → Int) (w : World) (hn : n ≤ maxLen) (h : IL ad f n w) :
    Calls Try.prog 91 #[.slice ad n cap] w fun e w' => e = .returned (.int .i64 (cls f n)) ∧ w' = w := by
  unfold maxLen at hn
  by_cases h256 : n = 256
  · subst h256
    have H : Hid (IL ad f 256 w) := h
    clear h hn
    go_enter Try.func91, Try.ntmps91
    go_wp2_with fail
    go_loop [3, 11] (fun c i => ∃ k m : Nat, k ≤ 256 ∧ i = .int .i64 k ∧ c = .int .i64 m ∧ m ≤ k ∧ Hid (clsTo f k = some m)) (fun _ i => 256 - (intOf i).toNat)
    case atStart => exact ⟨0, 0, by omega, rfl, rfl, by omega, rfl⟩
    case round =>
      obtain ⟨k, m, hk, rfl, rfl, hm, HK⟩ := hrel
      by_cases hlt : k < 256
      · have hlt' : (k : Int) < 256 := by omega
        obtain ⟨b, off, rfl, c1⟩ := H.out k hlt
        have HS : Hid (clsTo f (k + 1) = if f k < 0 ∨ (m : Int) < f k then none else if f k = m then some (m + 1) else some m) := by show _ = _; rw [clsTo, HK.out]
        have HC : Hid (cls f 256 = (clsTo f 256).getD 0) := rfl
        have HN : Hid (clsTo f (k + 1) = none → clsTo f 256 = none) := fun h => by have := clsTo_none h (256 - (k + 1)); rwa [show k + 1 + (256 - (k + 1)) = 256 by omega] at this
        by_cases h1 : f k < 0
        · go_wp2_with fail
          go_ret
          refine ⟨ret_int ?_, rfl⟩
          rw [HC.out, HN.out (by rw [HS.out, if_pos (Or.inl h1)])]; rfl
        · by_cases h2 : (m : Int) < f k
          · go_wp2_with fail
            go_ret
            refine ⟨ret_int ?_, rfl⟩
            rw [HC.out, HN.out (by rw [HS.out, if_pos (Or.inr h2)])]; rfl
          · by_cases h3 : f k = m
            · have hb : (f k == (m : Int)) = true := by simpa using h3
              have HS2 : Hid (clsTo f (k + 1) = some (m + 1)) := by show _ = _; rw [HS.out, if_neg (by omega), if_pos h3]
              clear h3 HS HN HC
              go_wp2_with fail
              go_round
              case rel => exact ⟨k + 1, m + 1, by omega, by go_num, by go_num, by omega, HS2.out⟩
              case measure => simp [intOf]; omega
            · have hb : (f k == (m : Int)) = false := by simpa using h3
              have HS2 : Hid (clsTo f (k + 1) = some m) := by show _ = _; rw [HS.out, if_neg (by omega), if_neg h3]
              clear h3 HS HN HC
              go_wp2_with fail
              go_round
              case rel => exact ⟨k + 1, m, by omega, by go_num, rfl, by omega, HS2.out⟩
              case measure => simp [intOf]; omega
      · have hge : ¬ (k : Int) < 256 := by omega
        have hkn : k = 256 := by omega
        subst hkn
        go_wp2_with fail
        go_ret
        refine ⟨ret_int ?_, rfl⟩
        rw [cls, if_pos rfl, HK.out]; rfl
  · have hb : ((n : Int) == 256) = false := beq_eq_false_iff_ne.2 (by omega)
    have hb2 : ((n : Int) != 256) = true := by simp; omega
    have HC : Hid (cls f n = 0) := if_neg h256
    clear h h256
    go_enter Try.func91, Try.ntmps91
    go_wp2_with fail
    go_ret
    exact ⟨ret_int (by rw [HC.out]; rfl), rfl⟩

/-- Rules, classes and labels are as in a sound machine. -/
def Hd (rules : Int) (cl : Nat → Int) (ncl : Nat) (lb : Nat → Int) (nlb : Nat) : Prop :=
  (1 ≤ rules ∧ rules ≤ 8) ∧ (1 ≤ nlb ∧ nlb ≤ 96) ∧ 0 < cls cl ncl ∧ ∀ i, i < nlb → -1 ≤ lb i ∧ lb i ≤ rules - 1

set_option maxHeartbeats 1000000 in
theorem refHeads_any (rules : Int) (ad ad' : Option Addr) (n cap n' cap' : Nat) (cl lb : Nat → Int) (w : World) (hn : n ≤ maxLen) (hn' : n' ≤ maxLen) (h : IL ad cl n w) (h' : IL ad' lb n' w) :
    Calls Try.prog 77 #[.int .i64 rules, .slice ad n cap, .slice ad' n' cap'] w (BPost (Hd rules cl n lb n') w) := by
  have Hc : Hid (Calls Try.prog 56 #[.slice ad n cap] w fun e w' => e = .returned (.int .i64 (cls cl n)) ∧ w' = w) := refClasses_any ad n cap cl w hn h
  have Hw : Hid (Calls Try.prog 78 #[.slice ad' n' cap', .int .i64 (-1), .int .i64 (rules - 1)] w (BPost (∀ i, i < n' → -1 ≤ lb i ∧ lb i ≤ rules - 1) w)) := refWithin_any ad' n' cap' lb (-1) (rules - 1) w hn' h'
  unfold maxLen at hn hn'
  clear h h'
  by_cases hA : (1 ≤ rules ∧ rules ≤ 8) ∧ (1 ≤ n' ∧ n' ≤ 96)
  · have a1 : ¬ rules < 1 := by omega
    have a2 : ¬ 8 < rules := by omega
    have a3 : ¬ (n' : Int) < 1 := by omega
    have a4 : ¬ (96 : Int) < (n' : Int) := by omega
    go_enter Try.func77, Try.ntmps77
    go_wp2_with fail
    refine Hc.out.mono ?_
    rintro e w' ⟨rfl, rfl⟩
    have HH : Hid (Hd rules cl n lb n' ↔ 0 < cls cl n ∧ ∀ i, i < n' → -1 ≤ lb i ∧ lb i ≤ rules - 1) := ⟨fun h => h.2.2, fun h => ⟨hA.1, hA.2, h⟩⟩
    generalize cls cl n = c at *
    by_cases hc : 0 < c
    · have hc' : (0 : Int) < (c : Int) := by omega
      go_wp2_with fail
      refine Hw.out.mono ?_
      rintro e w' ⟨b, rfl, hb, rfl⟩
      go_wp2_with fail
      go_ret
      exact ⟨b, rfl, by rw [hb, HH.out]; exact ⟨fun h => ⟨hc, h⟩, fun h => h.2⟩, rfl⟩
    · have hc' : ¬ (0 : Int) < (c : Int) := by omega
      go_wp2_with fail
      go_ret
      exact BPost.f (fun h => by have := (HH.out.1 h).1; omega)
  · have HH : Hid (¬ Hd rules cl n lb n') := fun h => hA ⟨h.1, h.2.1⟩
    clear Hc Hw
    by_cases a1 : rules < 1
    · go_enter Try.func77, Try.ntmps77
      go_wp2_with fail
      go_ret
      exact BPost.f HH.out
    by_cases a2 : 8 < rules
    · go_enter Try.func77, Try.ntmps77
      go_wp2_with fail
      go_ret
      exact BPost.f HH.out
    by_cases a3 : (n' : Int) < 1
    · go_enter Try.func77, Try.ntmps77
      go_wp2_with fail
      go_ret
      exact BPost.f HH.out
    have a4 : (96 : Int) < (n' : Int) := by omega
    go_enter Try.func77, Try.ntmps77
    go_wp2_with fail
    go_ret
    exact BPost.f HH.out

set_option maxHeartbeats 1000000 in
theorem tabHead_any (rules : Int) (ad ad' : Option Addr) (n cap n' cap' : Nat) (cl lb : Nat → Int) (w : World) (hn : n ≤ maxLen) (hn' : n' ≤ maxLen) (h : IL ad cl n w) (h' : IL ad' lb n' w) :
    Calls Try.prog 123 #[.int .i64 rules, .slice ad n cap, .slice ad' n' cap'] w (BPost (Hd rules cl n lb n') w) := by
  have Hc : Hid (Calls Try.prog 91 #[.slice ad n cap] w fun e w' => e = .returned (.int .i64 (cls cl n)) ∧ w' = w) := tabClasses_any ad n cap cl w hn h
  have Hw : Hid (Calls Try.prog 125 #[.slice ad' n' cap', .int .i64 (-1), .int .i64 (rules - 1)] w (BPost (∀ i, i < n' → -1 ≤ lb i ∧ lb i ≤ rules - 1) w)) := tabWithin_any ad' n' cap' lb (-1) (rules - 1) w hn' h'
  unfold maxLen at hn hn'
  clear h h'
  by_cases hA : (1 ≤ rules ∧ rules ≤ 8) ∧ (1 ≤ n' ∧ n' ≤ 96)
  · have a1 : ¬ rules < 1 := by omega
    have a2 : ¬ 8 < rules := by omega
    have a3 : ¬ (n' : Int) < 1 := by omega
    have a4 : ¬ (96 : Int) < (n' : Int) := by omega
    go_enter Try.func123, Try.ntmps123
    go_wp2_with fail
    refine Hc.out.mono ?_
    rintro e w' ⟨rfl, rfl⟩
    have HH : Hid (Hd rules cl n lb n' ↔ 0 < cls cl n ∧ ∀ i, i < n' → -1 ≤ lb i ∧ lb i ≤ rules - 1) := ⟨fun h => h.2.2, fun h => ⟨hA.1, hA.2, h⟩⟩
    generalize cls cl n = c at *
    by_cases hc : c = 0
    · subst hc
      go_wp2_with fail
      go_ret
      exact BPost.f (fun h => by have := (HH.out.1 h).1; omega)
    · have hc' : ((c : Int) == 0) = false := beq_eq_false_iff_ne.2 (by omega)
      go_wp2_with fail
      refine Hw.out.mono ?_
      rintro e w' ⟨b, rfl, hb, rfl⟩
      go_wp2_with fail
      go_ret
      exact ⟨b, rfl, by rw [hb, HH.out]; exact ⟨fun h => ⟨by omega, h⟩, fun h => h.2⟩, rfl⟩
  · have HH : Hid (¬ Hd rules cl n lb n') := fun h => hA ⟨h.1, h.2.1⟩
    clear Hc Hw
    by_cases a1 : rules < 1
    · go_enter Try.func123, Try.ntmps123
      go_wp2_with fail
      go_ret
      exact BPost.f HH.out
    by_cases a2 : 8 < rules
    · go_enter Try.func123, Try.ntmps123
      go_wp2_with fail
      go_ret
      exact BPost.f HH.out
    by_cases a3 : (n' : Int) < 1
    · go_enter Try.func123, Try.ntmps123
      go_wp2_with fail
      go_ret
      exact BPost.f HH.out
    have a4 : (96 : Int) < (n' : Int) := by omega
    go_enter Try.func123, Try.ntmps123
    go_wp2_with fail
    go_ret
    exact BPost.f HH.out
end Go.Proofs.Ytoaaklhpmhjhkaa
