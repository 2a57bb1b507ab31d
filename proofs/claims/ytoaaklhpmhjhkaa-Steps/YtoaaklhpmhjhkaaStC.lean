/-
  The reference's Leads, Step, Label.
-/
import Derived.Test.YtoaaklhpmhjhkaaStA
namespace Go.Proofs.Ytoaaklhpmhjhkaa
open Go.RowKit

set_option maxRecDepth 100000 in
set_option maxHeartbeats 4000000 in
theorem leads_any (T : Tb) (A : TbA) (c : Int) (hS : Snd T) (hc : 0 ≤ c ∧ c ≤ 255) : ∀ (u n : Nat) (w : World), n < u → n < T.nlb → TbIn T A w →
    Calls Try.prog 75 #[.agg (A.cells T), .int .i64 n, .int .i64 c] w fun e w' => e = .returned (.int .i64 (ldF T u n c)) ∧ Below w.heap.size w w' := by
  intro u
  induction u with
  | zero => intro n w hn; omega
  | succ u ih =>
    intro n w hn hnl hI
    obtain ⟨R, hR⟩ : ∃ R, R = ldF T (u + 1) n c := ⟨_, rfl⟩
    rw [← hR]
    have HR : Hid (R = ldF T (u + 1) n c) := hR
    clear hR
    have HIH : Hid (∀ (n : Nat) (w : World), n < u → n < T.nlb → TbIn T A w → Calls Try.prog 75 #[.agg (A.cells T), .int .i64 n, .int .i64 c] w fun e w' => e = .returned (.int .i64 (ldF T u n c)) ∧ Below w.heap.size w w') := ih
    clear ih
    have hB := bel_box w (.cells (A.cells T) 26)
    have hAt := TbAt.boxed T A w 26
    have hI2 := hI.below hB
    obtain ⟨a1, C1, a2, C2, a3, C3, a4, C4, a5, C5, a6, C6⟩ := A
    have hl := hS.hd.2.1
    have hck := hS.e5
    have hbs := hS.b3 n hnl
    have hdf := hS.b4 n hnl
    have E6 : Hid (T.nnx = T.nck) := hS.e6
    have hnl' : (n : Int) < (T.nlb : Int) := by omega
    have hnb' : (n : Int) < (T.nbs : Int) := by have := hS.e3; omega
    have hnd' : (n : Int) < (T.ndf : Int) := by have := hS.e4; omega
    have hnxk : ∀ k : Nat, k < T.nck → k < T.nnx := fun k hk => by rw [E6.out]; exact hk
    unfold TbA.cells at hB hAt hI2 HIH
    unfold TbA.cells
    simp only at hB hAt hI2 HIH
    simp only
    have l3 := hI2.l3 n (by have := hS.e3; omega)
    have l4 := hI2.l4 n (by have := hS.e4; omega)
    simp only at l3 l4
    have L5 : Hid (IL a5 T.ck T.nck (w.alloc (.cells #[.int .i64 T.rules, .slice a1 T.ncl C1, .slice a2 T.nlb C2, .slice a3 T.nbs C3, .slice a4 T.ndf C4, .slice a5 T.nck C5, .slice a6 T.nnx C6] 26))) := hI2.l5
    have L6 : Hid (IL a6 T.nx T.nnx (w.alloc (.cells #[.int .i64 T.rules, .slice a1 T.ncl C1, .slice a2 T.nlb C2, .slice a3 T.nbs C3, .slice a4 T.ndf C4, .slice a5 T.nck C5, .slice a6 T.nnx C6] 26))) := hI2.l6
    have HI2 : Hid (TbIn T ⟨a1, C1, a2, C2, a3, C3, a4, C4, a5, C5, a6, C6⟩ (w.alloc (.cells #[.int .i64 T.rules, .slice a1 T.ncl C1, .slice a2 T.nlb C2, .slice a3 T.nbs C3, .slice a4 T.ndf C4, .slice a5 T.nck C5, .slice a6 T.nnx C6] 26))) := hI2
    clear hI hI2
    obtain ⟨g3, o3, rfl, d3⟩ := l3
    obtain ⟨g4, o4, rfl, d4⟩ := l4
    obtain ⟨k, ik⟩ : ∃ k : Nat, T.bs n + c = (k : Int) := ⟨(T.bs n + c).toNat, by omega⟩
    by_cases hat : k < T.nck ∧ T.ck k = n
    · obtain ⟨hkk, hck2⟩ := hat
      have hkk' : (k : Int) < (T.nck : Int) := by omega
      obtain ⟨g5, o5, rfl, d5⟩ := L5.out k hkk
      obtain ⟨g6, o6, rfl, d6⟩ := L6.out k (hnxk k hkk)
      have hkx' : (k : Int) < (T.nnx : Int) := by have := hnxk k hkk; omega
      have q3 : (T.ck k == (n : Int)) = true := by simpa using hck2
      have HR1 : Hid (R = T.nx k) := by show _ = _; rw [HR.out, ldF_at ik hkk hck2]
      clear HR HIH HI2 hAt hnxk
      go_enter Try.func75, Try.ntmps75
      go_wp2_with fail
      go_ret
      exact ⟨ret_int HR1.out.symm, hB⟩
    have HR1 : Hid (R = ldF T u (T.df n) c) := by show _ = _; rw [HR.out, ldF_on ik hat]
    clear HR
    by_cases hd : T.df n = -1
    · have HR2 : Hid (R = -1) := by show _ = _; rw [HR1.out, hd, ldF_none]
      have q4 : (T.df n == -1) = true := by simpa using hd
      clear HR1 HIH HI2 hAt hnxk
      by_cases hkk : k < T.nck
      · have hkk' : (k : Int) < (T.nck : Int) := by omega
        have q3 : (T.ck k == (n : Int)) = false := by simpa using fun e => hat ⟨hkk, e⟩
        obtain ⟨g5, o5, rfl, d5⟩ := L5.out k hkk
        go_enter Try.func75, Try.ntmps75
        go_wp2_with fail
        go_ret
        exact ⟨ret_int HR2.out.symm, hB⟩
      · have hkk' : ¬ (k : Int) < (T.nck : Int) := by omega
        go_enter Try.func75, Try.ntmps75
        go_wp2_with fail
        go_ret
        exact ⟨ret_int HR2.out.symm, hB⟩
    have q4 : (T.df n == -1) = false := by simpa using hd
    obtain ⟨m, hm⟩ := Int.eq_ofNat_of_zero_le (show 0 ≤ T.df n by omega)
    have HC : Hid (∀ w', TbIn T ⟨a1, C1, a2, C2, some ⟨g3, o3, none⟩, C3, some ⟨g4, o4, none⟩, C4, a5, C5, a6, C6⟩ w' → Calls Try.prog 75 #[.agg #[.int .i64 T.rules, .slice a1 T.ncl C1, .slice a2 T.nlb C2, .slice (some ⟨g3, o3, none⟩) T.nbs C3, .slice (some ⟨g4, o4, none⟩) T.ndf C4, .slice a5 T.nck C5, .slice a6 T.nnx C6], .int .i64 (T.df n), .int .i64 c] w' fun e w'' => e = .returned (.int .i64 R) ∧ Below w'.heap.size w' w'') := fun w' h' => by
      have := HIH.out m w' (by omega) (by omega) h'
      rw [HR1.out, hm]; exact this
    clear HIH HR1 hm hd
    by_cases hkk : k < T.nck
    · have hkk' : (k : Int) < (T.nck : Int) := by omega
      have q3 : (T.ck k == (n : Int)) = false := by simpa using fun e => hat ⟨hkk, e⟩
      obtain ⟨g5, o5, rfl, d5⟩ := L5.out k hkk
      clear L5 L6
      go_enter Try.func75, Try.ntmps75
      go_wp2_with fail
      clear d3
      generalize w.alloc (.cells #[.int .i64 T.rules, .slice a1 T.ncl C1, .slice a2 T.nlb C2, .slice (some ⟨g3, o3, none⟩) T.nbs C3, .slice (some ⟨g4, o4, none⟩) T.ndf C4, .slice (some ⟨g5, o5, none⟩) T.nck C5, .slice a6 T.nnx C6] 26) = W at *
      obtain ⟨p0, p1, p2, p3, p4, p5, p6⟩ := hAt
      simp only at p0 p1 p2 p3 p4 p5 p6
      have HC1 : Hid (∀ w', Below W.heap.size W w' → Calls Try.prog 75 #[.agg #[.int .i64 T.rules, .slice a1 T.ncl C1, .slice a2 T.nlb C2, .slice (some ⟨g3, o3, none⟩) T.nbs C3, .slice (some ⟨g4, o4, none⟩) T.ndf C4, .slice (some ⟨g5, o5, none⟩) T.nck C5, .slice a6 T.nnx C6], .int .i64 (T.df n), .int .i64 c] w' fun e w'' => e = .returned (.int .i64 R) ∧ Below w'.heap.size w' w'') := fun w' h' => HC.out w' (HI2.out.below h')
      clear HC HI2 hnxk
      go_region_with ((go_at_call 75; refine Calls.mono (HC1.out _ (Below.refl _ _).drew) ?_; rintro e w2 ⟨rfl, hB2⟩))
      all_goals go_wp2_with fail
      all_goals go_ret
      all_goals exact ⟨rfl, hB.trans ((show Below w.heap.size W w2 from (Below.refl _ _).drew.trans (hB2.mono hB.size)))⟩
    · have hkk' : ¬ (k : Int) < (T.nck : Int) := by omega
      clear L5 L6
      go_enter Try.func75, Try.ntmps75
      go_wp2_with fail
      clear d3
      generalize w.alloc (.cells #[.int .i64 T.rules, .slice a1 T.ncl C1, .slice a2 T.nlb C2, .slice (some ⟨g3, o3, none⟩) T.nbs C3, .slice (some ⟨g4, o4, none⟩) T.ndf C4, .slice a5 T.nck C5, .slice a6 T.nnx C6] 26) = W at *
      obtain ⟨p0, p1, p2, p3, p4, p5, p6⟩ := hAt
      simp only at p0 p1 p2 p3 p4 p5 p6
      have HC1 : Hid (∀ w', Below W.heap.size W w' → Calls Try.prog 75 #[.agg #[.int .i64 T.rules, .slice a1 T.ncl C1, .slice a2 T.nlb C2, .slice (some ⟨g3, o3, none⟩) T.nbs C3, .slice (some ⟨g4, o4, none⟩) T.ndf C4, .slice a5 T.nck C5, .slice a6 T.nnx C6], .int .i64 (T.df n), .int .i64 c] w' fun e w'' => e = .returned (.int .i64 R) ∧ Below w'.heap.size w' w'') := fun w' h' => HC.out w' (HI2.out.below h')
      clear HC HI2 hnxk
      go_region_with ((go_at_call 75; refine Calls.mono (HC1.out _ (Below.refl _ _).drew) ?_; rintro e w2 ⟨rfl, hB2⟩))
      all_goals go_wp2_with fail
      all_goals go_ret
      all_goals exact ⟨rfl, hB.trans ((show Below w.heap.size W w2 from (Below.refl _ _).drew.trans (hB2.mono hB.size)))⟩

set_option maxRecDepth 100000 in
set_option maxHeartbeats 4000000 in
theorem refStep_any (T : Tb) (A : TbA) (s x : Int) (w : World) (hS : Snd T) (hI : TbIn T A w) :
    Calls Try.prog 48 #[.agg (A.cells T), .int .i64 s, .int .i64 x] w fun e w' => e = .returned (.int .i64 (stp T s x)) ∧ Below w.heap.size w w' := by
  obtain ⟨R, hR⟩ : ∃ R, R = stp T s x := ⟨_, rfl⟩
  rw [← hR]
  unfold stp at hR
  have hcl := hS.cl
  have hB := bel_box w (.cells (A.cells T) 26)
  have hAt := TbAt.boxed T A w 26
  have hI2 := hI.below hB
  have HL : Hid (∀ (n : Nat) (c : Int) (w' : World), TbIn T A w' → n < T.nlb → (0 ≤ c ∧ c ≤ 255) → Calls Try.prog 75 #[.agg (A.cells T), .int .i64 n, .int .i64 c] w' fun e w'' => e = .returned (.int .i64 (ldF T 97 n c)) ∧ Below w'.heap.size w' w'') := fun n c w' h' h1 h2 => leads_any T A c hS h2 97 n w' (by have := hS.hd.2.1.2; omega) h1 h'
  have HI2 : Hid (TbIn T A (w.alloc (.cells (A.cells T) 26))) := hI2
  obtain ⟨a1, C1, a2, C2, a3, C3, a4, C4, a5, C5, a6, C6⟩ := A
  have HCl : Hid (∀ i, i < 256 → 0 ≤ T.cl i ∧ T.cl i ≤ 255) := hcl.2
  have HN : Hid (T.ncl = 256) := hcl.1
  have L1 : Hid (IL a1 T.cl T.ncl (w.alloc (.cells (TbA.cells ⟨a1, C1, a2, C2, a3, C3, a4, C4, a5, C5, a6, C6⟩ T) 26))) := hI2.l1
  unfold TbA.cells at hB hAt HL HI2 L1
  unfold TbA.cells
  simp only at hB hAt HL HI2 L1
  simp only
  clear hI hI2 hcl hS
  by_cases c1 : s < 0
  · rw [if_pos (Or.inl c1)] at hR
    subst hR
    clear L1 HL hAt
    go_enter Try.func48, Try.ntmps48
    go_wp2_with fail
    go_ret
    exact ⟨rfl, hB⟩
  by_cases c2 : (T.nlb : Int) ≤ s
  · rw [if_pos (Or.inr (Or.inl c2))] at hR
    subst hR
    clear L1 HL hAt
    go_enter Try.func48, Try.ntmps48
    go_wp2_with fail
    go_ret
    exact ⟨rfl, hB⟩
  by_cases c3 : x < 0
  · rw [if_pos (Or.inr (Or.inr (Or.inl c3)))] at hR
    subst hR
    clear L1 HL hAt
    go_enter Try.func48, Try.ntmps48
    go_wp2_with fail
    go_ret
    exact ⟨rfl, hB⟩
  by_cases c4 : 255 < x
  · rw [if_pos (Or.inr (Or.inr (Or.inr (by omega))))] at hR
    subst hR
    clear L1 HL hAt
    go_enter Try.func48, Try.ntmps48
    go_wp2_with fail
    go_ret
    exact ⟨rfl, hB⟩
  rw [if_neg (by omega)] at hR
  obtain ⟨n, rfl⟩ := Int.eq_ofNat_of_zero_le (show 0 ≤ s by omega)
  obtain ⟨m, rfl⟩ := Int.eq_ofNat_of_zero_le (show 0 ≤ x by omega)
  rw [Int.toNat_natCast] at hR
  have hm : m < 256 := by omega
  have hm' : (m : Int) < (T.ncl : Int) := by rw [HN.out]; omega
  have HC0 : Hid (∀ w', TbIn T ⟨a1, C1, a2, C2, a3, C3, a4, C4, a5, C5, a6, C6⟩ w' → Calls Try.prog 75 #[.agg #[.int .i64 T.rules, .slice a1 T.ncl C1, .slice a2 T.nlb C2, .slice a3 T.nbs C3, .slice a4 T.ndf C4, .slice a5 T.nck C5, .slice a6 T.nnx C6], .int .i64 n, .int .i64 (T.cl m)] w' fun e w'' => e = .returned (.int .i64 R) ∧ Below w'.heap.size w' w'') := fun w' h' => by rw [hR]; exact HL.out n (T.cl m) w' h' (by omega) (HCl.out m hm)
  obtain ⟨g1, o1, rfl, d1⟩ := L1.out m (by rw [HN.out]; exact hm)
  clear HL L1 hR HCl HN
  go_enter Try.func48, Try.ntmps48
  go_wp2_with fail
  generalize w.alloc (.cells #[.int .i64 T.rules, .slice (some ⟨g1, o1, none⟩) T.ncl C1, .slice a2 T.nlb C2, .slice a3 T.nbs C3, .slice a4 T.ndf C4, .slice a5 T.nck C5, .slice a6 T.nnx C6] 26) = W at *
  obtain ⟨p0, p1, p2, p3, p4, p5, p6⟩ := hAt
  simp only at p0 p1 p2 p3 p4 p5 p6
  have HC1 : Hid (∀ w', Below W.heap.size W w' → Calls Try.prog 75 #[.agg #[.int .i64 T.rules, .slice (some ⟨g1, o1, none⟩) T.ncl C1, .slice a2 T.nlb C2, .slice a3 T.nbs C3, .slice a4 T.ndf C4, .slice a5 T.nck C5, .slice a6 T.nnx C6], .int .i64 n, .int .i64 (T.cl m)] w' fun e w'' => e = .returned (.int .i64 R) ∧ Below w'.heap.size w' w'') := fun w' h' => HC0.out w' (HI2.out.below h')
  clear HC0 HI2
  go_region_with ((go_at_call 75; refine Calls.mono (HC1.out _ (Below.refl _ _).drew) ?_; rintro e w2 ⟨rfl, hB2⟩))
  all_goals go_wp2_with fail
  all_goals go_ret
  all_goals exact ⟨rfl, hB.trans ((show Below w.heap.size W w2 from (Below.refl _ _).drew.trans (hB2.mono hB.size)))⟩

set_option maxRecDepth 100000 in
set_option maxHeartbeats 4000000 in
theorem refLabel_any (T : Tb) (A : TbA) (s : Int) (w : World) (hI : TbIn T A w) :
    Calls Try.prog 49 #[.agg (A.cells T), .int .i64 s] w fun e w' => e = .returned (.int .i64 (lbl T s)) ∧ Below w.heap.size w w' := by
  obtain ⟨R, hR⟩ : ∃ R, R = lbl T s := ⟨_, rfl⟩
  rw [← hR]
  unfold lbl at hR
  have hB := bel_box w (.cells (A.cells T) 26)
  have hI2 := hI.below hB
  obtain ⟨a1, C1, a2, C2, a3, C3, a4, C4, a5, C5, a6, C6⟩ := A
  have L1 : Hid (IL a2 T.lb T.nlb (w.alloc (.cells (TbA.cells ⟨a1, C1, a2, C2, a3, C3, a4, C4, a5, C5, a6, C6⟩ T) 26))) := hI2.l2
  unfold TbA.cells at hB L1
  unfold TbA.cells
  simp only at hB L1
  simp only
  clear hI hI2
  by_cases c1 : s < 0
  · rw [if_pos (Or.inl c1)] at hR
    subst hR
    clear L1
    go_enter Try.func49, Try.ntmps49
    go_wp2_with fail
    go_ret
    exact ⟨rfl, hB⟩
  by_cases c2 : (T.nlb : Int) ≤ s
  · rw [if_pos (Or.inr c2)] at hR
    subst hR
    clear L1
    go_enter Try.func49, Try.ntmps49
    go_wp2_with fail
    go_ret
    exact ⟨rfl, hB⟩
  rw [if_neg (by omega)] at hR
  obtain ⟨n, rfl⟩ := Int.eq_ofNat_of_zero_le (show 0 ≤ s by omega)
  rw [Int.toNat_natCast] at hR
  have hn : n < T.nlb := by omega
  have hn' : (n : Int) < (T.nlb : Int) := by omega
  obtain ⟨g2, o2, rfl, d2⟩ := L1.out n hn
  subst hR
  clear L1
  go_enter Try.func49, Try.ntmps49
  go_wp2_with fail
  go_ret
  exact ⟨rfl, hB⟩
end Go.Proofs.Ytoaaklhpmhjhkaa
