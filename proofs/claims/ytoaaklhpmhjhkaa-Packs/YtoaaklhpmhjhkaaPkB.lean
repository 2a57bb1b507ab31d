/-
  The program's rows: lead, differing, nearest.
-/
import Derived.Test.YtoaaklhpmhjhkaaPkA
import Derived.Test.YtoaaklhpmhjhkaaBsA
import Derived.Test.YtoaaklhpmhjhkaaEncB
namespace Go.Proofs.Ytoaaklhpmhjhkaa
open Go.RowKit
open Bm

/-- Rows in memory. -/
structure Rw (b n : Nat) (ad : Option Addr) (nn cap : Nat) (nx : Nat → Int) (w : World) : Prop where
  c0 : w.cell? ⟨b, 0, none⟩ = some (.int .i64 n)
  c1 : w.cell? ⟨b, 1, none⟩ = some (.slice ad nn cap)
  il : IL ad nx nn w
theorem Rw.below {b n : Nat} {ad : Option Addr} {nn cap : Nat} {nx : Nat → Int} {w w' : World} (h : Rw b n ad nn cap nx w) (hW : Below w.heap.size w w') : Rw b n ad nn cap nx w' := by
  have hb := World.block_lt_of_cell? w _ h.c0
  have e : ∀ k, w'.cell? ⟨b, k, none⟩ = w.cell? ⟨b, k, none⟩ := fun k => hW.cell (p := ⟨b, k, none⟩) hb
  exact ⟨by rw [e]; exact h.c0, by rw [e]; exact h.c1, h.il.below hW⟩
/-- A state, or none. -/
def StOf (n nn : Nat) (s : Int) : Prop := s = -1 ∨ ∃ m : Nat, s = m ∧ m ≤ 96 ∧ m * n + n ≤ nn

set_option maxHeartbeats 1000000 in
theorem rLead_any (b n : Nat) (ad : Option Addr) (nn cap : Nat) (nx : Nat → Int) (s : Int) (c : Nat) (w : World) (h : Rw b n ad nn cap nx w) (hn : n ≤ 256) (hnn : nn ≤ 24576) (hs : StOf n nn s) (hc : c < n) :
    Calls Try.prog 108 #[.pointer (some ⟨b, 0, none⟩), .int .i64 s, .int .i64 c] w fun e w' => e = .returned (.int .i64 (Pk.ld nx n s c)) ∧ Below w.heap.size w w' := by
  rcases hs with rfl | ⟨m, rfl, hm, hmn⟩
  · rw [Pk.ld_none]
    clear h
    go_enter Try.func108, Try.ntmps108
    go_wp2_with fail
    go_ret
    exact ⟨rfl, Below.refl _ _⟩
  · rw [Pk.ld_nat]
    obtain ⟨p, hp⟩ : ∃ p : Nat, p = m * n := ⟨_, rfl⟩
    rw [← hp] at hmn ⊢
    have ip : (m : Int) * (n : Int) = (p : Int) := by rw [hp]; simp
    clear hp
    obtain ⟨k, hk⟩ : ∃ k : Nat, k = p + c := ⟨_, rfl⟩
    rw [← hk]
    have ik : (p : Int) + (c : Int) = (k : Int) := by omega
    have hkn : k < nn := by omega
    have hkn' : (k : Int) < (nn : Int) := by omega
    obtain ⟨g, o, rfl, ck⟩ := h.il k hkn
    have c0 := h.c0
    have c1 := h.c1
    have q1 : ((m : Int) == -1) = false := by simp
    have hpb : p ≤ 24576 := by omega
    clear h hk
    go_enter Try.func108, Try.ntmps108
    go_wp2_with fail
    go_quiet (fail)
    go_wp2_with fail
    go_ret
    exact ⟨rfl, bel_drewN _ _ _⟩
/-- Numbers of classes. -/
def natI (l : List Nat) : List Int := l.map fun (a : Nat) => (a : Int)
theorem natI_len (l : List Nat) : (natI l).length = l.length := by simp [natI]
theorem natI_append (l r : List Nat) : natI (l ++ r) = natI l ++ natI r := by simp [natI]

set_option maxRecDepth 100000 in
set_option maxHeartbeats 4000000 in
theorem rDif_any (b n : Nat) (ad : Option Addr) (nn cap : Nat) (nx : Nat → Int) (s d : Int) (w : World) (h : Rw b n ad nn cap nx w) (hn : n ≤ 256) (hnn : nn ≤ 24576) (hs : StOf n nn s) (hd : StOf n nn d) :
    Calls Try.prog 131 #[.pointer (some ⟨b, 0, none⟩), .int .i64 s, .int .i64 d] w fun e w' => ∃ v, e = .returned v ∧ OwnL w.heap.size v (natI (Pk.dif nx n s d n)) w' ∧ Below w.heap.size w w' := by
  have HR : Hid (∀ w', Below w.heap.size w w' → w'.cell? ⟨b, 0, none⟩ = some (.int .i64 n)) := fun w' h' => (h.below h').c0
  have HS : Hid (∀ (c : Nat) (w' : World), c < n → Below w.heap.size w w' → Calls Try.prog 108 #[.pointer (some ⟨b, 0, none⟩), .int .i64 s, .int .i64 c] w' fun e w'' => e = .returned (.int .i64 (Pk.ld nx n s c)) ∧ Below w'.heap.size w' w'') := fun c w' hc h' => rLead_any b n ad nn cap nx s c w' (h.below h') hn hnn hs hc
  have HD : Hid (∀ (c : Nat) (w' : World), c < n → Below w.heap.size w w' → Calls Try.prog 108 #[.pointer (some ⟨b, 0, none⟩), .int .i64 d, .int .i64 c] w' fun e w'' => e = .returned (.int .i64 (Pk.ld nx n d c)) ∧ Below w'.heap.size w' w'') := fun c w' hc h' => rLead_any b n ad nn cap nx d c w' (h.below h') hn hnn hd hc
  clear h hs hd
  go_enter Try.func131, Try.ntmps131
  go_wp2_with fail
  go_loopw [7, 8] (fun v x w' => ∃ k : Nat, k ≤ n ∧ x = .int .i64 k ∧ OwnL w.heap.size v (natI (Pk.dif nx n s d k)) w' ∧ Below w.heap.size w w') (fun _ x _ => n - (intOf x).toNat)
  case atStart => exact ⟨0, by omega, rfl, OwnL.nil _ _, Below.refl _ _⟩
  case round =>
    obtain ⟨k, hk, rfl, hO, hB⟩ := hrel
    have c0 := HR.out wr hB
    by_cases hlt : k < n
    · have hlt' : (k : Int) < (n : Int) := by omega
      go_wp2_with fail
      clear c0
      refine (HS.out k _ hlt hB).mono ?_
      rintro e w1 ⟨rfl, hW1⟩
      have hB1 := hB.trans (hW1.mono hB.size)
      have hO1 := hO.below hW1
      clear hO hB hW1
      go_wp2_with fail
      refine (HD.out k _ hlt hB1).mono ?_
      rintro e w2 ⟨rfl, hW2⟩
      have hB2 := hB1.trans (hW2.mono hB1.size)
      have hO2 := hO1.below hW2
      clear hO1 hB1 hW2
      have hdl := Pk.dif_len nx n s d k
      by_cases he : Pk.ld nx n s k = Pk.ld nx n d k
      · have e1 := Pk.dif_eq he
        rw [← e1] at hO2
        have q1 : (Pk.ld nx n s k == Pk.ld nx n d k) = true := by simpa using he
        have q2 : (Pk.ld nx n s k != Pk.ld nx n d k) = false := by simp [he]
        clear e1 he
        go_wp2_with fail
        go_roundw
        case rel => exact ⟨k + 1, by omega, by go_num, hO2, hB2⟩
        case measure => simp [intOf]; omega
      · have E1 : Hid (Pk.dif nx n s d (k + 1) = Pk.dif nx n s d k ++ [k]) := Pk.dif_ne he
        have q1 : (Pk.ld nx n s k == Pk.ld nx n d k) = false := by simpa using he
        have q2 : (Pk.ld nx n s k != Pk.ld nx n d k) = true := by simp [he]
        have hx := box_bel w2 (.cells #[.int .i64 (k : Int)] 3)
        have hO3 := hO2.below hx
        have hB3 := hB2.trans (hx.mono hB2.size)
        have hge2 := hO3.blk
        have hnw : (w2.alloc (.cells #[.int .i64 (k : Int)] 3)).cell? ⟨w2.heap.size, 0, none⟩ = some (.int .i64 (k : Int)) := by rw [World.cell?_alloc_new]; rfl
        have hbs : w.heap.size ≤ (w2.alloc (.cells #[.int .i64 (k : Int)] 3)).heap.size := hB3.size
        clear he hx hO2 hB2
        go_wp2_with (first | (at_builtin; refine wpList_append_int (by rfl) _ _ (by rfl) w.heap.size u7 (natI (Pk.dif nx n s d k)) (by rfl) hO3 (by rw [natI_len]; omega) w2.heap.size k (by rfl) hnw hbs _ rfl ?_; intro g cap w5 hO5 hgrow hgb hl5))
        have e1 : natI (Pk.dif nx n s d k) ++ [(k : Int)] = natI (Pk.dif nx n s d (k + 1)) := by rw [E1.out, natI_append]; rfl
        rw [e1] at hO5
        go_roundw
        case rel => exact ⟨k + 1, by omega, by go_num, hO5, hB3.grown hgrow hbs (fun q hq => (hge2 q hq).1)⟩
        case measure => simp [intOf]; omega
    · have hge : ¬ (k : Int) < (n : Int) := by omega
      have hkn : k = n := by omega
      go_wp2_with fail
      go_ret
      refine ⟨u7, rfl, ?_, hB⟩
      rw [hkn] at hO
      exact hO

set_option maxRecDepth 100000 in
set_option maxHeartbeats 4000000 in
theorem rNear_any (b n : Nat) (ad : Option Addr) (nn cap : Nat) (nx : Nat → Int) (s : Nat) (w : World) (h : Rw b n ad nn cap nx w) (hn : n ≤ 256) (hnn : nn ≤ 24576) (hs : s ≤ 96) (hsn : s * n + n ≤ nn) :
    Calls Try.prog 106 #[.pointer (some ⟨b, 0, none⟩), .int .i64 s] w fun e w' => ∃ v, e = .returned (.tuple #[.int .i64 (Pk.df nx n s), v]) ∧ OwnL w.heap.size v (natI (Pk.own nx n s)) w' ∧ Below w.heap.size w w' := by
  have HC : Hid (∀ (d : Int) (w' : World), (d = -1 ∨ ∃ m : Nat, d = m ∧ m < s) → Below w.heap.size w w' → Calls Try.prog 131 #[.pointer (some ⟨b, 0, none⟩), .int .i64 s, .int .i64 d] w' fun e w'' => ∃ v, e = .returned v ∧ OwnL w'.heap.size v (natI (Pk.dif nx n s d n)) w'' ∧ Below w'.heap.size w' w'') := fun d w' hd h' => by
    refine rDif_any b n ad nn cap nx s d w' (h.below h') hn hnn (Or.inr ⟨s, rfl, hs, hsn⟩) ?_
    rcases hd with hd | ⟨m, hm, hms⟩
    · exact Or.inl hd
    · refine Or.inr ⟨m, hm, by omega, ?_⟩
      have : m * n ≤ s * n := Nat.mul_le_mul_right n (by omega)
      omega
  clear h hsn
  go_enter Try.func106, Try.ntmps106
  go_wp2_with fail
  refine (HC.out (-1) _ (Or.inl rfl) (Below.refl _ _)).mono ?_
  rintro e w1 ⟨v1, rfl, hO1, hB1⟩
  have hO1' : OwnL w.heap.size v1 (natI (Pk.near nx n s 0).2) w1 := hO1
  clear hO1
  go_wp2_with fail
  go_loopw [6, 7, 8] (fun x v y w' => ∃ d : Nat, d ≤ s ∧ y = .int .i64 d ∧ x = .int .i64 (Pk.near nx n s d).1 ∧ OwnL w.heap.size v (natI (Pk.near nx n s d).2) w' ∧ Below w.heap.size w w') (fun _ _ y _ => s - (intOf y).toNat)
  case atStart => exact ⟨0, by omega, rfl, rfl, hO1', hB1⟩
  case round =>
    clear hO1' hB1
    obtain ⟨d, hd, rfl, rfl, hO, hB⟩ := hrel
    obtain ⟨a7, c7, hv7, _⟩ := hO.il
    rw [natI_len] at hv7
    subst hv7
    by_cases hlt : d < s
    · have hlt' : (d : Int) < (s : Int) := by omega
      go_wp2_with fail
      refine (HC.out d _ (Or.inr ⟨d, rfl, hlt⟩) hB).mono ?_
      rintro e w2 ⟨v2, rfl, hO2, hB2⟩
      have hO3 := hO.below hB2
      have hB3 := hB.trans (hB2.mono hB.size)
      have hO4 := hO2.mono hB.size
      obtain ⟨a9, c9, hv9, _⟩ := hO4.il
      rw [natI_len] at hv9
      subst hv9
      have b1 := Pk.dif_len nx n s d n
      have b2 : (Pk.near nx n s d).2.length ≤ n := by rw [Pk.near_own]; exact Pk.dif_len _ _ _ _ _
      clear hO hB hO2 hB2
      by_cases hl : (Pk.dif nx n s d n).length < (Pk.near nx n s d).2.length
      · have E1 : Hid (Pk.near nx n s (d + 1) = ((d : Int), Pk.dif nx n s d n)) := Pk.near_lt hl
        have hl' : ((Pk.dif nx n s d n).length : Int) < ((Pk.near nx n s d).2.length : Int) := by omega
        clear hl
        go_wp2_with fail
        go_roundw
        case rel => exact ⟨d + 1, by omega, by go_num, by rw [E1.out], by rw [E1.out]; exact hO4, hB3⟩
        case measure => simp [intOf]; omega
      · have E1 : Hid (Pk.near nx n s (d + 1) = Pk.near nx n s d) := Pk.near_ge hl
        have hl' : ¬ ((Pk.dif nx n s d n).length : Int) < ((Pk.near nx n s d).2.length : Int) := by omega
        clear hl
        go_wp2_with fail
        go_roundw
        case rel => exact ⟨d + 1, by omega, by go_num, by rw [E1.out], by rw [E1.out]; exact hO3, hB3⟩
        case measure => simp [intOf]; omega
    · have hge : ¬ (d : Int) < (s : Int) := by omega
      have hds : d = s := by omega
      subst hds
      go_wp2_with fail
      go_ret2
      exact ⟨_, rfl, hO, hB⟩
end Go.Proofs.Ytoaaklhpmhjhkaa
