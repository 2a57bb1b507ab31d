/-
  The program's Step and Label; the reference's Leads, Step, Label.
-/
import Derived.Test.YtoaaklhpmhjhkabStA
namespace Go.Proofs.Ytoaaklhpmhjhkab
open Go.RowKit

set_option maxRecDepth 100000 in
set_option maxHeartbeats 4000000 in
theorem tStep_any (b : Nat) (T : Tb) (A : TbA) (s x : Int) (w : World) (hS : Snd T) (hA : TbAt b T A w) (hI : TbIn T A w) :
    Calls Try.prog 75 #[.pointer (some ⟨b, 0, none⟩), .int .i64 s, .int .i64 x] w fun e w' => e = .returned (.int .i64 (stp T s x)) ∧ w' = w := by
  obtain ⟨R, hR⟩ : ∃ R, R = stp T s x := ⟨_, rfl⟩
  rw [← hR]
  unfold stp at hR
  have hcl := hS.cl
  have HL : Hid (∀ (n0 : Nat) (c : Int), n0 < T.nlb → (0 ≤ c ∧ c ≤ 255) → Calls Try.prog 90 #[.pointer (some ⟨b, 0, none⟩), .int .i64 n0, .int .i64 c] w fun e w' => e = .returned (.int .i64 (ldF T 97 n0 c)) ∧ w' = w) := fun n0 c h1 h2 => lead_any b T A n0 c w hS hA hI h1 h2
  have hl := hS.hd.2.1
  obtain ⟨a1, C1, a2, C2, a3, C3, a4, C4, a5, C5, a6, C6⟩ := A
  obtain ⟨p0, p1, p2, p3, p4, p5, p6⟩ := hA
  simp only at p0 p1 p2 p3 p4 p5 p6
  rw [hcl.1] at p1
  have l1 : IL a1 T.cl 256 w := by rw [← hcl.1]; exact hI.l1
  have L1 : Hid (IL a1 T.cl 256 w) := l1
  have HCl : Hid (∀ i, i < 256 → 0 ≤ T.cl i ∧ T.cl i ≤ 255) := hcl.2
  clear hI l1 hcl hS
  by_cases c1 : s < 0
  · rw [if_pos (Or.inl c1)] at hR
    subst hR
    clear HL L1
    go_enter Try.func75, Try.ntmps75
    go_wp2_with fail
    go_ret
    exact ⟨rfl, rfl⟩
  by_cases c2 : (T.nlb : Int) ≤ s
  · rw [if_pos (Or.inr (Or.inl c2))] at hR
    subst hR
    clear HL L1
    go_enter Try.func75, Try.ntmps75
    go_wp2_with fail
    go_ret
    exact ⟨rfl, rfl⟩
  by_cases c3 : x < 0
  · rw [if_pos (Or.inr (Or.inr (Or.inl c3)))] at hR
    subst hR
    clear HL L1
    go_enter Try.func75, Try.ntmps75
    go_wp2_with fail
    go_ret
    exact ⟨rfl, rfl⟩
  by_cases c4 : 256 ≤ x
  · rw [if_pos (Or.inr (Or.inr (Or.inr c4)))] at hR
    subst hR
    clear HL L1
    go_enter Try.func75, Try.ntmps75
    go_wp2_with fail
    go_ret
    exact ⟨rfl, rfl⟩
  rw [if_neg (by omega)] at hR
  obtain ⟨n, rfl⟩ := Int.eq_ofNat_of_zero_le (show 0 ≤ s by omega)
  obtain ⟨m, rfl⟩ := Int.eq_ofNat_of_zero_le (show 0 ≤ x by omega)
  rw [Int.toNat_natCast] at hR
  have hm : m < 256 := by omega
  have HC := HL.out n (T.cl m) (by omega) (HCl.out m hm)
  rw [← hR] at HC
  have HC1 : Hid (Calls Try.prog 90 #[.pointer (some ⟨b, 0, none⟩), .int .i64 n, .int .i64 (T.cl m)] w fun e w' => e = .returned (.int .i64 R) ∧ w' = w) := HC
  obtain ⟨g1, o1, rfl, d1⟩ := L1.out m hm
  clear HC HL L1 hR HCl
  go_enter Try.func75, Try.ntmps75
  go_wp2_with fail
  refine HC1.out.mono ?_
  rintro e w' ⟨rfl, rfl⟩
  go_wp2_with fail
  go_ret
  exact ⟨rfl, rfl⟩

set_option maxRecDepth 100000 in
set_option maxHeartbeats 4000000 in
theorem tLabel_any (b : Nat) (T : Tb) (A : TbA) (s : Int) (w : World) (hA : TbAt b T A w) (hI : TbIn T A w) :
    Calls Try.prog 76 #[.pointer (some ⟨b, 0, none⟩), .int .i64 s] w fun e w' => e = .returned (.int .i64 (lbl T s)) ∧ w' = w := by
  obtain ⟨R, hR⟩ : ∃ R, R = lbl T s := ⟨_, rfl⟩
  rw [← hR]
  unfold lbl at hR
  obtain ⟨a1, C1, a2, C2, a3, C3, a4, C4, a5, C5, a6, C6⟩ := A
  obtain ⟨p0, p1, p2, p3, p4, p5, p6⟩ := hA
  simp only at p0 p1 p2 p3 p4 p5 p6
  have L2 : Hid (IL a2 T.lb T.nlb w) := hI.l2
  clear hI
  by_cases c1 : s < 0
  · rw [if_pos (Or.inl c1)] at hR
    subst hR
    clear L2
    go_enter Try.func76, Try.ntmps76
    go_wp2_with fail
    go_ret
    exact ⟨rfl, rfl⟩
  by_cases c2 : (T.nlb : Int) ≤ s
  · rw [if_pos (Or.inr c2)] at hR
    subst hR
    clear L2
    go_enter Try.func76, Try.ntmps76
    go_wp2_with fail
    go_ret
    exact ⟨rfl, rfl⟩
  rw [if_neg (by omega)] at hR
  obtain ⟨n, rfl⟩ := Int.eq_ofNat_of_zero_le (show 0 ≤ s by omega)
  rw [Int.toNat_natCast] at hR
  have hn : n < T.nlb := by omega
  have hn' : (n : Int) < (T.nlb : Int) := by omega
  obtain ⟨g2, o2, rfl, d2⟩ := L2.out n hn
  subst hR
  clear L2
  go_enter Try.func76, Try.ntmps76
  go_wp2_with fail
  go_ret
  exact ⟨rfl, rfl⟩

end Go.Proofs.Ytoaaklhpmhjhkab
