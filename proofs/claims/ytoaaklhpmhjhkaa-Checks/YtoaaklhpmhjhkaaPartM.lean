/-
  Contracts of the program's Check.
-/
import Derived.Test.YtoaaklhpmhjhkaaPartL
namespace Go.Proofs.Ytoaaklhpmhjhkaa
open Go.RowKit
open Pg (Pt)

theorem cStep_bd (c : Pg.C) (p : Pt) (h : 0 ≤ c.ah ∧ 0 ≤ c.la ∧ ∀ y ∈ c.st, 0 ≤ y) (hp : 0 ≤ p.mo) : 0 ≤ (Pg.cStep c p).ah ∧ 0 ≤ (Pg.cStep c p).la ∧ ∀ y ∈ (Pg.cStep c p).st, 0 ≤ y := by
  obtain ⟨h1, h2, h3⟩ := h
  have hc := Pg.capped_le (c.ah + c.la) (by omega)
  have hm := Pg.capped_le (c.la * p.mo) (Int.mul_nonneg h2 hp)
  unfold Pg.cStep
  split
  · exact ⟨hc.1, by simp, h3⟩
  split
  · refine ⟨by simp, by simp, ?_⟩
    intro y hy
    rcases List.mem_cons.1 hy with h | h
    · subst h; exact hc.1
    · exact h3 y h
  split
  · split
    · exact ⟨by simp, hc.1, by simp⟩
    · rename_i x r hst
      refine ⟨h3 x (by rw [hst]; simp), hc.1, fun y hy => h3 y (by rw [hst]; simp [hy])⟩
  split
  · exact ⟨hc.1, by simp, h3⟩
  split
  · exact ⟨h1, hm.1, h3⟩
  · exact ⟨h1, h2, h3⟩
theorem cRun_bd (ps : List Pt) : ∀ (c : Pg.C), (0 ≤ c.ah ∧ 0 ≤ c.la ∧ ∀ y ∈ c.st, 0 ≤ y) → (∀ p ∈ ps, 0 ≤ p.mo) → 0 ≤ (Pg.cRun ps c).ah ∧ 0 ≤ (Pg.cRun ps c).la := by
  induction ps with
  | nil => intro c h _; exact ⟨h.1, h.2.1⟩
  | cons p r ih => intro c h hp; exact ih _ (cStep_bd c p h (hp p (by simp))) (fun q hq => hp q (by simp [hq]))
theorem countPlaces_bd (ps : List Pt) (hp : ∀ p ∈ ps, 0 ≤ p.mo) : 0 ≤ Pg.countPlaces ps ∧ Pg.countPlaces ps ≤ 97 := by
  have := cRun_bd ps ⟨0, 0, []⟩ ⟨by simp, by simp, by simp⟩ hp
  exact Pg.capped_le _ (by omega)

/-- The places of a pattern, by the program. -/
def placesP (s : ByteArray) : Int := Pg.countPlaces (Pg.readParts (bat s) s.size).ps
theorem placesP_bd (s : ByteArray) : 0 ≤ placesP s ∧ placesP s ≤ 97 := countPlaces_bd _ (fun p hp => (Pg.readParts_mo _ _ p hp).1)
/-- What the program's Check answers of one to eight patterns. -/
def PCheckIs (f : Nat → ByteArray) (n : Nat) (e r a : Int) : Prop :=
  (∃ i : Nat, i < n ∧ (∀ j, j < i → (Pg.wrong (bat (f j)) (f j).size).1 = 0) ∧ Pg.wrong (bat (f i)) (f i).size = (e, a) ∧ e ≠ 0 ∧ r = i) ∨
  ((∀ j, j < n → (Pg.wrong (bat (f j)) (f j).size).1 = 0) ∧ r = 0 ∧ a = 0 ∧ e = if 96 < sumTo (fun j => placesP (f j)) n then 7 else 0)

set_option maxHeartbeats 1000000 in
theorem patCheck_out (ad : Option Addr) (len cap : Nat) (w : World) (hl : len ≤ maxLen) (h : len = 0 ∨ 8 < len) :
    Calls Try.prog 64 #[.slice ad len cap] w fun e' w' => e' = .returned (.tuple #[.int .i64 1, .int .i64 0, .int .i64 0]) ∧ w' = w := by
  unfold maxLen at hl
  rcases h with h | h
  · subst h
    go_enter Try.func64, Try.ntmps64
    go_wp2_with fail
    go_ret3
    exact ⟨rfl, rfl⟩
  · have h0 : ((len : Int) == 0) = false := by simp; omega
    go_enter Try.func64, Try.ntmps64
    go_wp2_with fail
    go_ret3
    exact ⟨rfl, rfl⟩

set_option maxHeartbeats 1000000 in
theorem patCheck_in (b off cap n : Nat) (f : Nat → ByteArray) (e r a : Int) (w : World) (h1 : 1 ≤ n) (h8 : n ≤ 8) (hb : b < w.heap.size) (hm : ∀ i, i < n → (f i).size ≤ maxLen) (hr : SRow b off f n w) (h : PCheckIs f n e r a) :
    Calls Try.prog 64 #[.slice (some ⟨b, off, none⟩) n cap] w fun e' w' => e' = .returned (.tuple #[.int .i64 e, .int .i64 r, .int .i64 a]) ∧ Below w.heap.size w w' := by
  have hl0 : ((n : Int) == 0) = false := beq_eq_false_iff_ne.2 (by omega)
  have Hm : Hid (∀ i, i < n → (f i).size ≤ maxLen) := hm
  have Hr : Hid (SRow b off f n w) := hr
  have Hbd : Hid (∀ k, k ≤ n → 0 ≤ sumTo (fun j => placesP (f j)) k ∧ sumTo (fun j => placesP (f j)) k ≤ 97 * k) := by
    show ∀ k, k ≤ n → 0 ≤ sumTo (fun j => placesP (f j)) k ∧ sumTo (fun j => placesP (f j)) k ≤ 97 * k
    intro k
    induction k with
    | zero => intro _; simp [sumTo]
    | succ k ih =>
      intro hk
      have := ih (by omega)
      have h2 := placesP_bd (f k)
      simp only [sumTo]; omega
  clear hm hr
  have Hgo : Hid (∀ k, k < n → (Pg.wrong (bat (f k)) (f k).size).1 = 0 → ∀ W, Calls Try.prog 81 #[.string (f k)] W fun e w' => ∃ v ps, e = .returned (.tuple #[v, .int .i64 0, .int .i64 (Pg.wrong (bat (f k)) (f k).size).2]) ∧ Below W.heap.size W w' ∧ (∀ W2, W2 = w' → Calls Try.prog 82 #[v] W2 fun e2 w2 => e2 = .returned (.int .i64 (placesP (f k))) ∧ Below W2.heap.size W2 w2) ∧ ps = ([] : List Pt)) := by
    show ∀ k, k < n → (Pg.wrong (bat (f k)) (f k).size).1 = 0 → ∀ W, Calls Try.prog 81 #[.string (f k)] W fun e w' => ∃ v ps, e = .returned (.tuple #[v, .int .i64 0, .int .i64 (Pg.wrong (bat (f k)) (f k).size).2]) ∧ Below W.heap.size W w' ∧ (∀ W2, W2 = w' → Calls Try.prog 82 #[v] W2 fun e2 w2 => e2 = .returned (.int .i64 (placesP (f k))) ∧ Below W2.heap.size W2 w2) ∧ ps = ([] : List Pt)
    intro k hk h0 W
    refine (Parse_any (f k) W (Hm.out k hk)).mono ?_
    rintro e' w' ⟨v, ps, rfl, hW, hok⟩
    obtain ⟨hO, hst, hl⟩ := hok h0
    refine ⟨v, [], by rw [h0], hW, ?_, rfl⟩
    rintro W2 rfl
    refine (countPlaces_any v ps _ _ hl hO ?_).mono ?_
    · intro p hp
      have := Pg.readParts_mo (bat (f k)) (f k).size p.strip (by rw [← hst]; exact List.mem_map.2 ⟨p, hp, rfl⟩)
      exact this
    · rintro e2 w2 ⟨rfl, h2⟩
      refine ⟨ret_int ?_, h2⟩
      rw [placesP, ← hst, Pg.countPlaces_strip]
  rcases h with ⟨i0, hi0, hok, hwr, he, rfl⟩ | ⟨hok, rfl, rfl, rfl⟩
  · have Hok : Hid (∀ j, j < i0 → (Pg.wrong (bat (f j)) (f j).size).1 = 0) := hok
    have Hwr : Hid (Pg.wrong (bat (f i0)) (f i0).size = (e, a)) := hwr
    have hne : (e == 0) = false := by simpa using he
    clear hok hwr he
    go_enter Try.func64, Try.ntmps64
    go_wp2_with fail
    go_loopw [5, 21] (fun x i w' => ∃ k : Nat, k ≤ i0 ∧ i = .int .i64 k ∧ x = .int .i64 (sumTo (fun j => placesP (f j)) k) ∧ Below w.heap.size w w') (fun _ i _ => 9 - (intOf i).toNat)
    case atStart => exact ⟨0, by omega, rfl, rfl, Below.refl _ _⟩
    case round =>
      obtain ⟨k, hk, rfl, rfl, hW⟩ := hrel
      have hcell := Hr.out.below hb hW k (by omega)
      have hkn : (k : Int) < (n : Int) := by omega
      by_cases hki : k = i0
      · subst hki
        go_wp2_with fail
        refine (Parse_any (f k) _ (Hm.out k hi0)).mono ?_
        rintro e' w1 ⟨v, ps, rfl, hW1, _⟩
        rw [Hwr.out]
        go_wp2_with fail
        go_ret3
        exact ⟨rfl, hW.trans (hW1.mono hW.size)⟩
      · have hk' : k < i0 := by omega
        clear hki
        have hb0 := Hbd.out k (by omega)
        have hpb := placesP_bd (f k)
        go_wp2_with fail
        refine (Hgo.out k (by omega) (Hok.out k hk') _).mono ?_
        rintro e' w1 ⟨v, ps, rfl, hW1, hc, _⟩
        have Hc := hc w1 rfl
        clear hc
        have HC : Hid (Calls Try.prog 82 #[v] w1 fun e2 w2 => e2 = .returned (.int .i64 (placesP (f k))) ∧ Below w1.heap.size w1 w2) := Hc
        clear Hc
        go_wp2_with fail
        refine HC.out.mono ?_
        rintro e' w2 ⟨rfl, hW2⟩
        go_wp2_with fail
        go_roundw
        case rel =>
          have hX := hW.trans (hW1.mono hW.size)
          exact ⟨k + 1, by omega, by go_num, rfl, hX.trans (hW2.mono hX.size)⟩
        case measure => simp [intOf]; omega
  · have Hok : Hid (∀ j, j < n → (Pg.wrong (bat (f j)) (f j).size).1 = 0) := hok
    clear hok
    go_enter Try.func64, Try.ntmps64
    go_wp2_with fail
    go_loopw [5, 21] (fun x i w' => ∃ k : Nat, k ≤ n ∧ i = .int .i64 k ∧ x = .int .i64 (sumTo (fun j => placesP (f j)) k) ∧ Below w.heap.size w w') (fun _ i _ => 9 - (intOf i).toNat)
    case atStart => exact ⟨0, by omega, rfl, rfl, Below.refl _ _⟩
    case round =>
      obtain ⟨k, hk, rfl, rfl, hW⟩ := hrel
      have hb0 := Hbd.out k (by omega)
      by_cases hkn0 : k < n
      · have hcell := Hr.out.below hb hW k hkn0
        have hkn : (k : Int) < (n : Int) := by omega
        have hpb := placesP_bd (f k)
        go_wp2_with fail
        refine (Hgo.out k hkn0 (Hok.out k hkn0) _).mono ?_
        rintro e' w1 ⟨v, ps, rfl, hW1, hc, _⟩
        have Hc := hc w1 rfl
        clear hc
        have HC : Hid (Calls Try.prog 82 #[v] w1 fun e2 w2 => e2 = .returned (.int .i64 (placesP (f k))) ∧ Below w1.heap.size w1 w2) := Hc
        clear Hc
        go_wp2_with fail
        refine HC.out.mono ?_
        rintro e' w2 ⟨rfl, hW2⟩
        go_wp2_with fail
        go_roundw
        case rel =>
          have hX := hW.trans (hW1.mono hW.size)
          exact ⟨k + 1, by omega, by go_num, rfl, hX.trans (hW2.mono hX.size)⟩
        case measure => simp [intOf]; omega
      · have hkk : k = n := by omega
        subst hkk
        by_cases h96 : 96 < sumTo (fun j => placesP (f j)) k
        · go_wp2_with fail
          go_ret3
          exact ⟨by first | rfl | rw [if_pos (by omega)], hW⟩
        · go_wp2_with fail
          go_ret3
          exact ⟨by first | rfl | rw [if_neg (by omega)], hW⟩

set_option maxHeartbeats 1000000 in
theorem munchCheck_of (v : Value) (e r a : Int) (w : World) (h : Calls Try.prog 64 #[v] w fun e' w' => e' = .returned (.tuple #[.int .i64 e, .int .i64 r, .int .i64 a]) ∧ Below w.heap.size w w') :
    Calls Try.prog 35 #[v] w fun e' w' => e' = .returned (.tuple #[.int .i64 e, .int .i64 r, .int .i64 a]) ∧ Below w.heap.size w w' := by
  have H : Hid (Calls Try.prog 64 #[v] w fun e' w' => e' = .returned (.tuple #[.int .i64 e, .int .i64 r, .int .i64 a]) ∧ Below w.heap.size w w') := h
  clear h
  go_enter Try.func35, Try.ntmps35
  go_wp2_with fail
  refine H.out.mono ?_
  rintro e' w1 ⟨rfl, hW⟩
  go_wp2_with fail
  go_ret3
  exact ⟨rfl, hW⟩
end Go.Proofs.Ytoaaklhpmhjhkaa
