/-
  The law's packed.
-/
import Derived.Test.YtoaaklhpmhjhkaaPkO
namespace Go.Proofs.Ytoaaklhpmhjhkaa
open Go.RowKit
open Bm

/-- The tables of nothing. -/
def T0 : Tb := ⟨0, fun _ => 0, 0, fun _ => 0, 0, fun _ => 0, 0, fun _ => 0, 0, fun _ => 0, 0, fun _ => 0, 0⟩
/-- The tables that a machine must have, and the error. -/
def ResIs (M : Mc) (T : Tb) (c : Int) : Prop := (SndM M ∧ T = packT M ∧ c = 0) ∨ (¬ SndM M ∧ T = T0 ∧ c = 10)
theorem ResIs.uniq {M : Mc} {T U : Tb} {c d : Int} (h : ResIs M T c) (h' : ResIs M U d) : U = T ∧ d = c := by
  rcases h with ⟨h1, rfl, rfl⟩ | ⟨h1, rfl, rfl⟩
  · rcases h' with ⟨_, rfl, rfl⟩ | ⟨h2, _⟩
    · exact ⟨rfl, rfl⟩
    · exact absurd h1 h2
  · rcases h' with ⟨h2, _⟩ | ⟨_, rfl, rfl⟩
    · exact absurd h2 h1
    · exact ⟨rfl, rfl⟩
theorem ResIs.sz {M : Mc} {T : Tb} {c : Int} (h : ResIs M T c) : TbSz T := by
  rcases h with ⟨h1, rfl, _⟩ | ⟨_, rfl, _⟩
  · exact packT_sz h1
  · exact ⟨by simp [T0], by simp [T0], by simp [T0], by simp [T0], by simp [T0], by simp [T0]⟩
def A0 : TbA := ⟨none, 0, none, 0, none, 0, none, 0, none, 0, none, 0⟩
theorem T0_in (B : Nat) (w : World) : TbF B T0 A0 w := fun _ _ _ => ⟨fun i hi => absurd hi (Nat.not_lt_zero i), fun i hi => absurd hi (Nat.not_lt_zero i), fun i hi => absurd hi (Nat.not_lt_zero i), fun i hi => absurd hi (Nat.not_lt_zero i), fun i hi => absurd hi (Nat.not_lt_zero i), fun i hi => absurd hi (Nat.not_lt_zero i)⟩
theorem zeroT_eq : zeroT = A0.cells T0 := rfl
/-- Six lists as values. -/
def vals (T : Tb) (A : TbA) : Nat → Value := fun i => match i with | 1 => .slice A.a1 T.ncl A.c1 | 2 => .slice A.a2 T.nlb A.c2 | 3 => .slice A.a3 T.nbs A.c3 | 4 => .slice A.a4 T.ndf A.c4 | 5 => .slice A.a5 T.nck A.c5 | _ => .slice A.a6 T.nnx A.c6
theorem vals_eq (T : Tb) (A : TbA) : sixC T.rules (vals T A) = A.cells T := rfl
/-- Tables of one's own: their lists, their room. -/
def Own6 (B : Nat) (T : Tb) (A : TbA) (w : World) : Prop := TbF B T A w ∧ ∃ G C, SixR (vals T A) G C w ∧ ∀ i, 1 ≤ i → i ≤ 6 → 0 < C i → B ≤ G i
theorem Own6.keep {B : Nat} {T : Tb} {A : TbA} {w w' : World} (h : Own6 B T A w) (hz : w.heap.size ≤ w'.heap.size) (hk : ∀ q, B ≤ q → q < w.heap.size → w'.heap[q]? = w.heap[q]?) : Own6 B T A w' := by
  obtain ⟨h1, G, C, h2, h3⟩ := h
  refine ⟨fun w'' hz2 hk2 => h1 w'' (Nat.le_trans hz hz2) (fun q q1 q2 => by rw [hk2 q q1 (by omega), hk q q1 q2]), G, C, ⟨fun i i1 i2 => (h2.r i i1 i2).blk (fun hc => hk _ (h3 i i1 i2 hc) ((h2.r i i1 i2).lt hc)), h2.ap⟩, h3⟩
theorem Own6.below {B : Nat} {T : Tb} {A : TbA} {w w' : World} (h : Own6 B T A w) (hW : Below w.heap.size w w') : Own6 B T A w' := h.keep hW.size (fun q _ hq => hW.block q hq)
theorem Own6.mono {B B' : Nat} {T : Tb} {A : TbA} {w : World} (h : Own6 B T A w) (hb : B' ≤ B) : Own6 B' T A w := by
  obtain ⟨h1, G, C, h2, h3⟩ := h
  exact ⟨fun w'' hz hk => h1 w'' hz (fun q q1 q2 => hk q (by omega) q2), G, C, h2, fun i i1 i2 hc => Nat.le_trans hb (h3 i i1 i2 hc)⟩
theorem six_match {P : Nat → Prop} (h1 : P 1) (h2 : P 2) (h3 : P 3) (h4 : P 4) (h5 : P 5) (h6 : P 6) : ∀ i, 1 ≤ i → i ≤ 6 → P i := fun i a b => by
  have : i = 1 ∨ i = 2 ∨ i = 3 ∨ i = 4 ∨ i = 5 ∨ i = 6 := by omega
  rcases this with rfl | rfl | rfl | rfl | rfl | rfl <;> assumption
theorem PkL.own6 {B : Nat} {M : Mc} {g1 g2 : Nat} {vb vd vc vn : Value} {W : World} (h : PkL B M g1 g2 vb vd vc vn W) (hS : SndM M) : ∃ A : TbA, pkCells M g1 g2 vb vd vc vn = A.cells (packT M) ∧ Own6 B (packT M) A W := by
  have hn1 : 0 < M.ncl := by rw [hS.ncl]; omega
  have hn2 : 0 < M.nlb := by have := hS.hd.2.1; omega
  have m1 : M.ncl ≤ maxLen := by rw [hS.ncl]; unfold maxLen; omega
  have m2 : M.nlb ≤ maxLen := by have := hS.hd.2.1; unfold maxLen; omega
  obtain ⟨a3, c3, e3, _⟩ := h.b.il
  obtain ⟨a4, c4, e4, _⟩ := h.d.il
  obtain ⟨a5, c5, e5, _⟩ := h.c.il
  obtain ⟨a6, c6, e6, _⟩ := h.n.il
  obtain ⟨G3, C3, r3, o3⟩ := h.b.rm
  obtain ⟨G4, C4, r4, o4⟩ := h.d.rm
  obtain ⟨G5, C5, r5, o5⟩ := h.c.rm
  obtain ⟨G6, C6, r6, o6⟩ := h.n.rm
  have q1 := h.o1
  have q2 := h.o2
  have q3 := h.o3
  subst e3
  subst e4
  subst e5
  subst e6
  refine ⟨⟨some ⟨g1, 0, none⟩, M.ncl, some ⟨g2, 0, none⟩, M.nlb, a3, c3, a4, c4, a5, c5, a6, c6⟩, rfl, fun w'' hz hk => ?_, fun i => match i with | 1 => g1 | 2 => g2 | 3 => G3 | 4 => G4 | 5 => G5 | _ => G6, fun i => match i with | 1 => M.ncl | 2 => M.nlb | 3 => C3 | 4 => C4 | 5 => C5 | _ => C6, ⟨six_match (h.k1.rm (Nat.le_refl _) m1) (h.k2.rm (Nat.le_refl _) m2) r3 r4 r5 r6, ?_⟩, ?_⟩
  · have h' := h.keep (W' := w'') (fun q h1 h2 => hk q h1 h2) hn1 hn2
    exact ⟨h'.k1.il (Nat.le_refl _), h'.k2.il (Nat.le_refl _), h'.b.ilAt, h'.d.ilAt, h'.c.ilAt, h'.n.ilAt⟩
  · intro i j i1 i2 j1 j2 hij ci cj
    have hi : i = 1 ∨ i = 2 ∨ i = 3 ∨ i = 4 ∨ i = 5 ∨ i = 6 := by omega
    have hj : j = 1 ∨ j = 2 ∨ j = 3 ∨ j = 4 ∨ j = 5 ∨ j = 6 := by omega
    rcases hi with rfl | rfl | rfl | rfl | rfl | rfl <;> rcases hj with rfl | rfl | rfl | rfl | rfl | rfl <;> simp only at ci cj ⊢ <;> first
      | exact absurd rfl hij
      | omega
      | (have := q3 _ (Or.inl (o3 cj)); omega)
      | (have := q3 _ (Or.inr (Or.inl (o4 cj))); omega)
      | (have := q3 _ (Or.inr (Or.inr (Or.inl (o5 cj)))); omega)
      | (have := q3 _ (Or.inr (Or.inr (Or.inr (o6 cj)))); omega)
      | (have := q3 _ (Or.inl (o3 ci)); omega)
      | (have := q3 _ (Or.inr (Or.inl (o4 ci))); omega)
      | (have := q3 _ (Or.inr (Or.inr (Or.inl (o5 ci)))); omega)
      | (have := q3 _ (Or.inr (Or.inr (Or.inr (o6 ci)))); omega)
      | exact fun e => h.bd _ (o3 ci) (by rw [o4 cj, e])
      | exact fun e => h.bc _ (o3 ci) (by rw [o5 cj, e])
      | exact fun e => h.bn _ (o3 ci) (by rw [o6 cj, e])
      | exact fun e => h.dc _ (o4 ci) (by rw [o5 cj, e])
      | exact fun e => h.dn _ (o4 ci) (by rw [o6 cj, e])
      | exact fun e => h.cn _ (o5 ci) (by rw [o6 cj, e])
      | exact fun e => h.bd _ (o3 cj) (by rw [o4 ci, e])
      | exact fun e => h.bc _ (o3 cj) (by rw [o5 ci, e])
      | exact fun e => h.bn _ (o3 cj) (by rw [o6 ci, e])
      | exact fun e => h.dc _ (o4 cj) (by rw [o5 ci, e])
      | exact fun e => h.dn _ (o4 cj) (by rw [o6 ci, e])
      | exact fun e => h.cn _ (o5 cj) (by rw [o6 ci, e])
  · exact six_match (fun _ => q1) (fun _ => by show B ≤ g2; omega) (fun hc => (h.b.blk _ (o3 hc)).1) (fun hc => (h.d.blk _ (o4 hc)).1) (fun hc => (h.c.blk _ (o5 hc)).1) (fun hc => (h.n.blk _ (o6 hc)).1)
theorem PackPost.own {M : Mc} {w w' : World} {e : Ending} (h : PackPost M w e w') : ∃ (T : Tb) (A : TbA) (c : Int), ResIs M T c ∧ e = .returned (.tuple #[.agg (A.cells T), .int .i64 c]) ∧ Own6 w.heap.size T A w' ∧ Below w.heap.size w w' := by
  obtain ⟨hB, h⟩ := h
  rcases h with ⟨hS, rfl⟩ | ⟨hS, g1, g2, vb, vd, vc, vn, rfl, hP⟩
  · refine ⟨T0, A0, 10, Or.inr ⟨hS, rfl, rfl⟩, rfl, ⟨T0_in _ _, fun _ => 0, fun _ => 0, ⟨fun i i1 i2 => ⟨0, by omega, by omega, Or.inl ⟨?_, rfl, rfl⟩, fun j hj => by omega⟩, fun _ _ _ _ _ _ _ h => absurd h (Nat.lt_irrefl 0)⟩, fun _ _ _ h => absurd h (Nat.lt_irrefl 0)⟩, hB⟩
    exact six_match (P := fun i => vals T0 A0 i = .slice none 0 0) rfl rfl rfl rfl rfl rfl i i1 i2
  · obtain ⟨A, e1, e2⟩ := hP.own6 hS
    rw [e1]
    exact ⟨packT M, A, 0, Or.inl ⟨hS, rfl, rfl⟩, rfl, e2, hB⟩
theorem RefPost.own {M : Mc} {w w' : World} {e : Ending} (h : RefPost M w e w') : ∃ (T : Tb) (A : TbA) (c : Int), ResIs M T c ∧ e = .returned (.tuple #[.agg (A.cells T), .int .i64 c]) ∧ TbF w.heap.size T A w' ∧ Below w.heap.size w w' := by
  obtain ⟨hB, h⟩ := h
  rcases h with ⟨hS, rfl⟩ | ⟨hS, A, rfl, hP⟩
  · exact ⟨T0, A0, 10, Or.inr ⟨hS, rfl, rfl⟩, rfl, T0_in _ _, hB⟩
  · exact ⟨packT M, A, 0, Or.inl ⟨hS, rfl, rfl⟩, rfl, hP, hB⟩
end Go.Proofs.Ytoaaklhpmhjhkaa
