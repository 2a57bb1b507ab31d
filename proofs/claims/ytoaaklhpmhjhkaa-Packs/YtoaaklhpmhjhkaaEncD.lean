/-
  Tables; contract of the reference's SoundTables.
-/
import Derived.Test.YtoaaklhpmhjhkaaEncC
namespace Go.Proofs.Ytoaaklhpmhjhkaa
open Go.RowKit

/-- Tables, as numbers. -/
structure Tb where
  rules : Int
  cl : Nat → Int
  ncl : Nat
  lb : Nat → Int
  nlb : Nat
  bs : Nat → Int
  nbs : Nat
  df : Nat → Int
  ndf : Nat
  ck : Nat → Int
  nck : Nat
  nx : Nat → Int
  nnx : Nat
/-- Where their lists lie. -/
structure TbA where
  a1 : Option Addr
  c1 : Nat
  a2 : Option Addr
  c2 : Nat
  a3 : Option Addr
  c3 : Nat
  a4 : Option Addr
  c4 : Nat
  a5 : Option Addr
  c5 : Nat
  a6 : Option Addr
  c6 : Nat
def TbA.cells (A : TbA) (T : Tb) : Array Value := #[.int .i64 T.rules, .slice A.a1 T.ncl A.c1, .slice A.a2 T.nlb A.c2, .slice A.a3 T.nbs A.c3, .slice A.a4 T.ndf A.c4, .slice A.a5 T.nck A.c5, .slice A.a6 T.nnx A.c6]
structure TbIn (T : Tb) (A : TbA) (w : World) : Prop where
  l1 : IL A.a1 T.cl T.ncl w
  l2 : IL A.a2 T.lb T.nlb w
  l3 : IL A.a3 T.bs T.nbs w
  l4 : IL A.a4 T.df T.ndf w
  l5 : IL A.a5 T.ck T.nck w
  l6 : IL A.a6 T.nx T.nnx w
theorem TbIn.below {T : Tb} {A : TbA} {w w' : World} (h : TbIn T A w) (hW : Below w.heap.size w w') : TbIn T A w' :=
  ⟨h.l1.below hW, h.l2.below hW, h.l3.below hW, h.l4.below hW, h.l5.below hW, h.l6.below hW⟩
structure TbSz (T : Tb) : Prop where
  s1 : T.ncl + 3 ≤ 17592186044416
  s2 : T.nlb + 3 ≤ 17592186044416
  s3 : T.nbs + 3 ≤ 17592186044416
  s4 : T.ndf + 3 ≤ 17592186044416
  s5 : T.nck + 3 ≤ 17592186044416
  s6 : T.nnx + 3 ≤ 17592186044416
structure TbAt (b : Nat) (T : Tb) (A : TbA) (w : World) : Prop where
  c0 : w.cell? ⟨b, 0, none⟩ = some (.int .i64 T.rules)
  c1 : w.cell? ⟨b, 1, none⟩ = some (.slice A.a1 T.ncl A.c1)
  c2 : w.cell? ⟨b, 2, none⟩ = some (.slice A.a2 T.nlb A.c2)
  c3 : w.cell? ⟨b, 3, none⟩ = some (.slice A.a3 T.nbs A.c3)
  c4 : w.cell? ⟨b, 4, none⟩ = some (.slice A.a4 T.ndf A.c4)
  c5 : w.cell? ⟨b, 5, none⟩ = some (.slice A.a5 T.nck A.c5)
  c6 : w.cell? ⟨b, 6, none⟩ = some (.slice A.a6 T.nnx A.c6)
theorem TbAt.below {b : Nat} {T : Tb} {A : TbA} {w w' : World} (h : TbAt b T A w) (hW : Below w.heap.size w w') : TbAt b T A w' := by
  have hb := World.block_lt_of_cell? w _ h.c0
  have e : ∀ k, w'.cell? ⟨b, k, none⟩ = w.cell? ⟨b, k, none⟩ := fun k => hW.cell (p := ⟨b, k, none⟩) hb
  exact ⟨by rw [e]; exact h.c0, by rw [e]; exact h.c1, by rw [e]; exact h.c2, by rw [e]; exact h.c3, by rw [e]; exact h.c4, by rw [e]; exact h.c5, by rw [e]; exact h.c6⟩
theorem TbAt.boxed (T : Tb) (A : TbA) (w : World) (t : TypeId) : TbAt w.heap.size T A (w.alloc (.cells (A.cells T) t)) := by
  refine ⟨?_, ?_, ?_, ?_, ?_, ?_, ?_⟩ <;> (rw [World.cell?_alloc_new]; rfl)
theorem TbAt.lt {b : Nat} {T : Tb} {A : TbA} {w : World} (h : TbAt b T A w) : b < w.heap.size := World.block_lt_of_cell? w _ h.c0
/-- A cell is as it must be. -/
def CellOK (T : Tb) (k : Nat) : Prop :=
  (T.ck k = -1 ∧ T.nx k = -1) ∨ ((0 ≤ T.ck k ∧ T.ck k < T.nlb) ∧ (-1 ≤ T.nx k ∧ T.nx k < T.nlb) ∧ 0 ≤ (k : Int) - T.bs (T.ck k).toNat ∧ (k : Int) - T.bs (T.ck k).toNat < cls T.cl T.ncl)
/-- Tables are sound. -/
structure Snd (T : Tb) : Prop where
  hd : Hd T.rules T.cl T.ncl T.lb T.nlb
  e3 : T.nbs = T.nlb
  e4 : T.ndf = T.nlb
  e6 : T.nnx = T.nck
  e5 : T.nck ≤ 24576
  b3 : ∀ i, i < T.nlb → 0 ≤ T.bs i ∧ T.bs i ≤ T.nck
  b4 : ∀ i, i < T.nlb → -1 ≤ T.df i ∧ T.df i < i
  cs : ∀ k, k < T.nck → CellOK T k
  la : T.nck = 0 ∨ T.ck (T.nck - 1) ≠ -1
/-- It answers whether P, and leaves what was there. -/
def BPostB (P : Prop) (w : World) (e : Ending) (w' : World) : Prop := ∃ b, e = .returned (.bool b) ∧ (b = true ↔ P) ∧ Below w.heap.size w w'
theorem BPostB.t {P : Prop} {w w' : World} (h : P) (hW : Below w.heap.size w w') : BPostB P w (.returned (.bool true)) w' := ⟨true, rfl, by simpa using h, hW⟩
theorem BPostB.f {P : Prop} {w w' : World} (h : ¬ P) (hW : Below w.heap.size w w') : BPostB P w (.returned (.bool false)) w' := ⟨false, rfl, by simpa using h, hW⟩
theorem bel_box (w : World) (o : Obj) : Below w.heap.size w (w.alloc o) := (Below.refl _ _).alloc (Nat.le_refl _) o

set_option maxRecDepth 100000 in
set_option maxHeartbeats 4000000 in
theorem refSound_any (T : Tb) (A : TbA) (w : World) (hs : TbSz T) (h : TbIn T A w) : Calls Try.prog 69 #[.agg (A.cells T)] w (BPostB (Snd T) w) := by
  have hB := bel_box w (.cells (A.cells T) 26)
  have hI := h.below hB
  have HH : Hid (Calls Try.prog 77 #[.int .i64 T.rules, .slice A.a1 T.ncl A.c1, .slice A.a2 T.nlb A.c2] (w.alloc (.cells (A.cells T) 26)) (BPost (Hd T.rules T.cl T.ncl T.lb T.nlb) (w.alloc (.cells (A.cells T) 26)))) :=
    refHeads_any _ _ _ _ _ _ _ _ _ _ (by have := hs.s1; unfold maxLen; omega) (by have := hs.s2; unfold maxLen; omega) hI.l1 hI.l2
  have HC : Hid (Calls Try.prog 56 #[.slice A.a1 T.ncl A.c1] (w.alloc (.cells (A.cells T) 26)) fun e w' => e = .returned (.int .i64 (cls T.cl T.ncl)) ∧ w' = (w.alloc (.cells (A.cells T) 26))) :=
    refClasses_any _ _ _ _ _ (by have := hs.s1; unfold maxLen; omega) hI.l1
  obtain ⟨z1, z2, z3, z4, z5, z6⟩ := hs
  obtain ⟨rules, cl, ncl, lb, nlb, bs, nbs, df, ndf, ck, nck, nx, nnx⟩ := T
  obtain ⟨a1, c1, a2, c2, a3, c3, a4, c4, a5, c5, a6, c6⟩ := A
  simp only [TbA.cells] at *
  have HI3 : Hid (IL a3 bs nbs (w.alloc (.cells #[.int .i64 rules, .slice a1 ncl c1, .slice a2 nlb c2, .slice a3 nbs c3, .slice a4 ndf c4, .slice a5 nck c5, .slice a6 nnx c6] 26))) := hI.l3
  have HI4 : Hid (IL a4 df ndf (w.alloc (.cells #[.int .i64 rules, .slice a1 ncl c1, .slice a2 nlb c2, .slice a3 nbs c3, .slice a4 ndf c4, .slice a5 nck c5, .slice a6 nnx c6] 26))) := hI.l4
  have HI5 : Hid (IL a5 ck nck (w.alloc (.cells #[.int .i64 rules, .slice a1 ncl c1, .slice a2 nlb c2, .slice a3 nbs c3, .slice a4 ndf c4, .slice a5 nck c5, .slice a6 nnx c6] 26))) := hI.l5
  have HI6 : Hid (IL a6 nx nnx (w.alloc (.cells #[.int .i64 rules, .slice a1 ncl c1, .slice a2 nlb c2, .slice a3 nbs c3, .slice a4 ndf c4, .slice a5 nck c5, .slice a6 nnx c6] 26))) := hI.l6
  clear hI h
  go_enter Try.func69, Try.ntmps69
  go_wp2_with fail
  refine HH.out.mono ?_
  rintro e w' ⟨b, rfl, hb, rfl⟩
  have HD : Hid (b = true ↔ Hd rules cl ncl lb nlb) := hb
  clear hb HH
  cases b
  · have HN : Hid (¬ Snd ⟨rules, cl, ncl, lb, nlb, bs, nbs, df, ndf, ck, nck, nx, nnx⟩) := fun h => by have := HD.out.2 h.hd; cases this
    go_wp2_with fail
    go_ret
    exact BPostB.f HN.out hB
  have HD2 : Hid (Hd rules cl ncl lb nlb) := HD.out.1 rfl
  have hlb : nlb ≤ 96 := HD2.out.2.1.2
  clear HD
  by_cases e3 : nbs = nlb
  case neg =>
    have HN : Hid (¬ Snd ⟨rules, cl, ncl, lb, nlb, bs, nbs, df, ndf, ck, nck, nx, nnx⟩) := fun h => e3 h.e3
    have q1 : ((nbs : Int) == (nlb : Int)) = false := beq_eq_false_iff_ne.2 (by omega)
    have q2 : ((nbs : Int) != (nlb : Int)) = true := by simp; omega
    go_wp2_with fail
    go_ret
    exact BPostB.f HN.out hB
  subst e3
  by_cases e4 : ndf = nbs
  case neg =>
    have HN : Hid (¬ Snd ⟨rules, cl, ncl, lb, nbs, bs, nbs, df, ndf, ck, nck, nx, nnx⟩) := fun h => e4 h.e4
    have q1 : ((ndf : Int) == (nbs : Int)) = false := beq_eq_false_iff_ne.2 (by omega)
    have q2 : ((ndf : Int) != (nbs : Int)) = true := by simp; omega
    go_wp2_with fail
    go_ret
    exact BPostB.f HN.out hB
  subst e4
  by_cases e6 : nnx = nck
  case neg =>
    have HN : Hid (¬ Snd ⟨rules, cl, ncl, lb, ndf, bs, ndf, df, ndf, ck, nck, nx, nnx⟩) := fun h => e6 h.e6
    have q1 : ((nnx : Int) == (nck : Int)) = false := beq_eq_false_iff_ne.2 (by omega)
    have q2 : ((nnx : Int) != (nck : Int)) = true := by simp; omega
    go_wp2_with fail
    go_ret
    exact BPostB.f HN.out hB
  subst e6
  by_cases e5 : nnx ≤ 24576
  case neg =>
    have HN : Hid (¬ Snd ⟨rules, cl, ncl, lb, ndf, bs, ndf, df, ndf, ck, nnx, nx, nnx⟩) := fun h => e5 h.e5
    have q1 : (24576 : Int) < (nnx : Int) := by omega
    go_wp2_with fail
    go_ret
    exact BPostB.f HN.out hB
  have q5 : ¬ (24576 : Int) < (nnx : Int) := by omega
  go_wp2_with fail
  go_loop [6] (fun i => ∃ k : Nat, k ≤ ndf ∧ i = .int .i64 k ∧ Hid (∀ i, i < k → (0 ≤ bs i ∧ bs i ≤ nnx) ∧ (-1 ≤ df i ∧ df i < i))) (fun i => ndf - (intOf i).toNat)
  case atStart => exact ⟨0, by omega, rfl, fun i hi => by omega⟩
  case round =>
    obtain ⟨k, hk, rfl, HK⟩ := hrel
    by_cases hlt : k < ndf
    · have hlt' : (k : Int) < (ndf : Int) := by omega
      obtain ⟨b3, o3, rfl, d3⟩ := HI3.out k hlt
      obtain ⟨b4, o4, rfl, d4⟩ := HI4.out k hlt
      have HN : Hid (¬ ((0 ≤ bs k ∧ bs k ≤ nnx) ∧ (-1 ≤ df k ∧ df k < k)) → ¬ Snd ⟨rules, cl, ncl, lb, ndf, bs, ndf, df, ndf, ck, nnx, nx, nnx⟩) := fun h h2 => h ⟨h2.b3 k hlt, h2.b4 k hlt⟩
      by_cases h1 : bs k < 0
      · go_wp2_with fail
        go_ret
        exact BPostB.f (HN.out (by omega)) hB
      by_cases h2 : (nnx : Int) < bs k
      · go_wp2_with fail
        go_ret
        exact BPostB.f (HN.out (by omega)) hB
      by_cases h3 : df k < -1
      · go_wp2_with fail
        go_ret
        exact BPostB.f (HN.out (by omega)) hB
      by_cases h4 : (k : Int) ≤ df k
      · go_wp2_with fail
        go_ret
        exact BPostB.f (HN.out (by omega)) hB
      go_wp2_with fail
      go_round
      case rel => exact ⟨k + 1, by omega, by go_num, fun i hi' => by
        by_cases e : i = k
        · subst e; omega
        · exact HK.out i (by omega)⟩
      case measure => simp [intOf]; omega
    · have hge : ¬ (k : Int) < (ndf : Int) := by omega
      have hkn : k = ndf := by omega
      subst hkn
      go_wp2_with fail
      refine HC.out.mono ?_
      rintro e w' ⟨rfl, rfl⟩
      have hcl := cls_le cl ncl
      have HCE : Hid (∀ k' < nnx, CellOK ⟨rules, cl, ncl, lb, k, bs, k, df, k, ck, nnx, nx, nnx⟩ k' ↔ ((ck k' = -1 ∧ nx k' = -1) ∨ ((0 ≤ ck k' ∧ ck k' < k) ∧ (-1 ≤ nx k' ∧ nx k' < k) ∧ 0 ≤ (k' : Int) - bs (ck k').toNat ∧ (k' : Int) - bs (ck k').toNat < cls cl ncl))) := fun k' _ => Iff.rfl
      generalize cls cl ncl = c at *
      clear HC
      go_wp2_with fail
      go_loop [8] (fun i => ∃ j : Nat, j ≤ nnx ∧ i = .int .i64 j ∧ Hid (∀ i, i < j → CellOK ⟨rules, cl, ncl, lb, k, bs, k, df, k, ck, nnx, nx, nnx⟩ i)) (fun i => nnx - (intOf i).toNat)
      case atStart => exact ⟨0, by omega, rfl, fun i hi => by omega⟩
      case round =>
        obtain ⟨j, hj, rfl, HJ⟩ := hrel
        by_cases hjl : j < nnx
        · have hjl' : (j : Int) < (nnx : Int) := by omega
          obtain ⟨b5, o5, rfl, d5⟩ := HI5.out j hjl
          obtain ⟨b6, o6, rfl, d6⟩ := HI6.out j hjl
          have HN : Hid (¬ CellOK ⟨rules, cl, ncl, lb, k, bs, k, df, k, ck, nnx, nx, nnx⟩ j → ¬ Snd ⟨rules, cl, ncl, lb, k, bs, k, df, k, ck, nnx, nx, nnx⟩) := fun h h2 => h (h2.cs j hjl)
          have HJ2 : Hid (CellOK ⟨rules, cl, ncl, lb, k, bs, k, df, k, ck, nnx, nx, nnx⟩ j → ∀ i, i < j + 1 → CellOK ⟨rules, cl, ncl, lb, k, bs, k, df, k, ck, nnx, nx, nnx⟩ i) := fun h i hi' => by
            by_cases e : i = j
            · subst e; exact h
            · exact HJ.out i (by omega)
          have HE := HCE.out j hjl
          by_cases hx : ck j = -1
          · rw [hx] at d5
            by_cases hy : nx j = -1
            · rw [hy] at d6
              have HJ3 : Hid (∀ i, i < j + 1 → CellOK ⟨rules, cl, ncl, lb, k, bs, k, df, k, ck, nnx, nx, nnx⟩ i) := HJ2.out (HE.2 (Or.inl ⟨hx, hy⟩))
              clear HE HJ2 HN hx hy
              go_wp2_with fail
              go_round
              case rel => exact ⟨j + 1, by omega, by go_num, HJ3.out⟩
              case measure => simp [intOf]; omega
            · have HN2 : Hid (¬ Snd ⟨rules, cl, ncl, lb, k, bs, k, df, k, ck, nnx, nx, nnx⟩) := HN.out (fun h => by have := HE.1 h; omega)
              have q1 : (nx j == -1) = false := by simpa using hy
              have q2 : (nx j != -1) = true := by simpa using hy
              clear HE HJ2 HN hx hy
              go_wp2_with fail
              go_ret
              exact BPostB.f HN2.out hB
          have q1 : (ck j == -1) = false := by simpa using hx
          by_cases h1 : ck j < 0
          · have HN2 : Hid (¬ Snd ⟨rules, cl, ncl, lb, k, bs, k, df, k, ck, nnx, nx, nnx⟩) := HN.out (fun h => by have := HE.1 h; omega)
            clear HE HJ2 HN hx
            go_wp2_with fail
            go_ret
            exact BPostB.f HN2.out hB
          by_cases h2 : (k : Int) ≤ ck j
          · have HN2 : Hid (¬ Snd ⟨rules, cl, ncl, lb, k, bs, k, df, k, ck, nnx, nx, nnx⟩) := HN.out (fun h => by have := HE.1 h; omega)
            clear HE HJ2 HN hx
            go_wp2_with fail
            go_ret
            exact BPostB.f HN2.out hB
          obtain ⟨m, hm⟩ := Int.eq_ofNat_of_zero_le (show 0 ≤ ck j by omega)
          rw [hm] at d5 h1 h2 q1 HE
          simp only [Int.toNat_natCast] at HE
          have hmk : m < k := by omega
          obtain ⟨b7, o7, h7, d7⟩ := HI3.out m hmk
          subst h7
          have hbs := (HK.out m hmk).1
          clear hx hm
          generalize bs m = z at *
          generalize nx j = y at *
          by_cases h3 : (j : Int) - z < 0
          · have HN2 : Hid (¬ Snd ⟨rules, cl, ncl, lb, k, bs, k, df, k, ck, nnx, nx, nnx⟩) := HN.out (fun h => by have := HE.1 h; omega)
            clear HE HJ2 HN
            go_wp2_with fail
            go_ret
            exact BPostB.f HN2.out hB
          by_cases h4 : (c : Int) ≤ (j : Int) - z
          · have HN2 : Hid (¬ Snd ⟨rules, cl, ncl, lb, k, bs, k, df, k, ck, nnx, nx, nnx⟩) := HN.out (fun h => by have := HE.1 h; omega)
            clear HE HJ2 HN
            go_wp2_with fail
            go_ret
            exact BPostB.f HN2.out hB
          by_cases h5 : y < -1
          · have HN2 : Hid (¬ Snd ⟨rules, cl, ncl, lb, k, bs, k, df, k, ck, nnx, nx, nnx⟩) := HN.out (fun h => by have := HE.1 h; omega)
            clear HE HJ2 HN
            go_wp2_with fail
            go_ret
            exact BPostB.f HN2.out hB
          by_cases h6 : (k : Int) ≤ y
          · have HN2 : Hid (¬ Snd ⟨rules, cl, ncl, lb, k, bs, k, df, k, ck, nnx, nx, nnx⟩) := HN.out (fun h => by have := HE.1 h; omega)
            clear HE HJ2 HN
            go_wp2_with fail
            go_ret
            exact BPostB.f HN2.out hB
          have HJ3 : Hid (∀ i, i < j + 1 → CellOK ⟨rules, cl, ncl, lb, k, bs, k, df, k, ck, nnx, nx, nnx⟩ i) := HJ2.out (HE.2 (by omega))
          clear HE HJ2 HN
          go_wp2_with fail
          go_round
          case rel => exact ⟨j + 1, by omega, by go_num, HJ3.out⟩
          case measure => simp [intOf]; omega
        · have hge : ¬ (j : Int) < (nnx : Int) := by omega
          have hjn : j = nnx := by omega
          subst hjn
          have HSN : Hid (j = 0 ∨ ck (j - 1) ≠ -1 → Snd ⟨rules, cl, ncl, lb, k, bs, k, df, k, ck, j, nx, j⟩) := fun h => ⟨HD2.out, rfl, rfl, rfl, e5, fun i hi => (HK.out i hi).1, fun i hi => (HK.out i hi).2, HJ.out, h⟩
          clear HCE
          by_cases hj0 : j = 0
          · have HT : Hid (Snd ⟨rules, cl, ncl, lb, k, bs, k, df, k, ck, j, nx, j⟩) := HSN.out (Or.inl hj0)
            subst hj0
            clear HSN
            go_wp2_with fail
            go_ret
            exact BPostB.t HT.out hB
          · have q0 : ((j : Int) == 0) = false := beq_eq_false_iff_ne.2 (by omega)
            obtain ⟨m, hm⟩ : ∃ m, j - 1 = m := ⟨_, rfl⟩
            obtain ⟨b5, o5, rfl, d5⟩ := HI5.out m (by omega)
            have HSN2 : Hid (ck m ≠ -1 → Snd ⟨rules, cl, ncl, lb, k, bs, k, df, k, ck, j, nx, j⟩) := fun h => HSN.out (Or.inr (by rw [hm]; exact h))
            have HSN3 : Hid (ck m = -1 → ¬ Snd ⟨rules, cl, ncl, lb, k, bs, k, df, k, ck, j, nx, j⟩) := fun h h2 => by
              rcases h2.la with h3 | h3
              · exact hj0 h3
              · exact h3 (by rw [show j - 1 = m from hm]; exact h)
            have i1 : (j : Int) - 1 = (m : Int) := by omega
            have i2 : (m : Int) < (j : Int) := by omega
            clear HSN hj0 hm
            by_cases hl : ck m = -1
            · have HN2 : Hid (¬ Snd ⟨rules, cl, ncl, lb, k, bs, k, df, k, ck, j, nx, j⟩) := HSN3.out hl
              rw [hl] at d5
              clear hl HSN2 HSN3
              go_wp2_with fail
              go_ret
              exact BPostB.f HN2.out hB
            · have q1 : (ck m == -1) = false := by simpa using hl
              have q2 : (ck m != -1) = true := by simpa using hl
              have HS2 : Hid (Snd ⟨rules, cl, ncl, lb, k, bs, k, df, k, ck, j, nx, j⟩) := HSN2.out hl
              clear hl HSN2 HSN3
              go_wp2_with fail
              go_ret
              exact BPostB.t HS2.out hB
end Go.Proofs.Ytoaaklhpmhjhkaa
