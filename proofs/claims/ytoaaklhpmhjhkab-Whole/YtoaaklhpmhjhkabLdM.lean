/-
  The law's sameTables, fullTables, filled.
-/
import Derived.Test.YtoaaklhpmhjhkabLdI
namespace Go.Proofs.Ytoaaklhpmhjhkab
open Go.RowKit

/-- How long a list is. -/
def nOf (T : Tb) (i : Nat) : Nat := match i with | 1 => T.ncl | 2 => T.nlb | 3 => T.nbs | 4 => T.ndf | 5 => T.nck | 6 => T.nnx | _ => 0
/-- What it holds. -/
def fOf (T : Tb) (i : Nat) : Nat → Int := match i with | 1 => T.cl | 2 => T.lb | 3 => T.bs | 4 => T.df | 5 => T.ck | 6 => T.nx | _ => fun _ => 0
/-- Six lists of their own, and what stands in them. -/
def Six (T : Tb) (G : Nat → Nat) (F : Nat → Nat → Int) (w : World) : Prop := ∀ i, NRow (G i) (F i) (nOf T i) w
/-- Where they lie. -/
def sixA (T : Tb) (G : Nat → Nat) : TbA := ⟨some ⟨G 1, 0, none⟩, T.ncl, some ⟨G 2, 0, none⟩, T.nlb, some ⟨G 3, 0, none⟩, T.nbs, some ⟨G 4, 0, none⟩, T.ndf, some ⟨G 5, 0, none⟩, T.nck, some ⟨G 6, 0, none⟩, T.nnx⟩
/-- No two lists that are not empty share their block. -/
def Apart (T : Tb) (G : Nat → Nat) : Prop := ∀ i j, i < j → 0 < nOf T i → 0 < nOf T j → G i < G j
theorem Six.below {T : Tb} {G : Nat → Nat} {F : Nat → Nat → Int} {w w' : World} (h : Six T G F w) (hW : Below w.heap.size w w') : Six T G F w' := fun i => (h i).below hW
theorem Six.in_ {T : Tb} {G : Nat → Nat} {w : World} (h : Six T G (fOf T) w) : TbIn T (sixA T G) w :=
  ⟨(h 1).il (Nat.le_refl _), (h 2).il (Nat.le_refl _), (h 3).il (Nat.le_refl _), (h 4).il (Nat.le_refl _), (h 5).il (Nat.le_refl _), (h 6).il (Nat.le_refl _)⟩
/-- One list is written over. -/
theorem Six.put {T : Tb} {G : Nat → Nat} {F : Nat → Nat → Int} {w w' : World} {f : Nat → Int} (h : Six T G F w) (ha : Apart T G) (i : Nat) (hg : w.grownBy w' (if nOf T i = 0 then none else some (G i))) (hn : NRow (G i) f (nOf T i) w') : Six T G (fun j => if j = i then f else F j) w' := fun j => by
  by_cases e : j = i
  · subst e; simp only [if_true]; exact hn
  · simp only [e, if_false]
    rcases Nat.eq_zero_or_pos (nOf T j) with h0 | h0
    · intro k hk; omega
    · refine (h j).blk (hg.block _ ((h j).lt h0) ?_)
      by_cases hi : nOf T i = 0
      · rw [if_pos hi]; simp
      · rw [if_neg hi]
        intro e2
        have e3 : G i = G j := by first | exact Option.some.inj e2 | exact (Option.some.inj e2).symm
        rcases Nat.lt_or_gt_of_ne e with hlt | hlt
        · have := ha j i hlt h0 (by omega); omega
        · have := ha i j hlt (by omega) h0; omega
theorem TbAt.blk {b : Nat} {T : Tb} {A : TbA} {w w' : World} (h : TbAt b T A w) (hb : w'.heap[b]? = w.heap[b]?) : TbAt b T A w' := by
  have e : ∀ k, w'.cell? ⟨b, k, none⟩ = w.cell? ⟨b, k, none⟩ := fun k => World.cell?_of_block (w := w) (a := ⟨b, k, none⟩) hb
  exact ⟨by rw [e]; exact h.c0, by rw [e]; exact h.c1, by rw [e]; exact h.c2, by rw [e]; exact h.c3, by rw [e]; exact h.c4, by rw [e]; exact h.c5, by rw [e]; exact h.c6⟩

/-- What fullTables has at hand. -/
structure FS (T : Tb) (G : Nat → Nat) (B bx : Nat) (w : World) (F : Nat → Nat → Int) (W : World) : Prop where
  at_ : TbAt bx T (sixA T G) W
  six : Six T G F W
  bel : Below B w W
  low : ∀ i, 0 < nOf T i → G i < bx
  bxle : B ≤ bx
  sz : bx < W.heap.size
  grow : w.heap.size ≤ W.heap.size
  kept : ∀ q, q < w.heap.size → (∀ i, 0 < nOf T i → q ≠ G i) → W.heap[q]? = w.heap[q]?
theorem FS.put {T : Tb} {G : Nat → Nat} {B bx : Nat} {w : World} {F : Nat → Nat → Int} {W W' : World} {f : Nat → Int} (h : FS T G B bx w F W) (ha : Apart T G) (i : Nat) (hB : nOf T i = 0 ∨ B ≤ G i) (hg : W.grownBy W' (if nOf T i = 0 then none else some (G i))) (hn : NRow (G i) f (nOf T i) W') : FS T G B bx w (fun j => if j = i then f else F j) W' := by
  refine ⟨h.at_.blk (hg.block _ h.sz ?_), h.six.put ha i hg hn, h.bel.grown hg (Nat.le_trans h.bxle (Nat.le_of_lt h.sz)) ?_, h.low, h.bxle, Nat.lt_of_lt_of_le h.sz hg.size, Nat.le_trans h.grow hg.size, fun q hq hne => ?_⟩
  · by_cases hi : nOf T i = 0
    · rw [if_pos hi]; simp
    · rw [if_neg hi]
      intro e2
      have e3 : G i = bx := by first | exact Option.some.inj e2 | exact (Option.some.inj e2).symm
      have := h.low i (by omega)
      omega
  · intro k hk
    by_cases hi : nOf T i = 0
    · rw [if_pos hi] at hk; cases hk
    · rw [if_neg hi] at hk
      cases hk
      rcases hB with h | h
      · exact absurd h hi
      · exact h
  · rw [hg.block q (Nat.lt_of_lt_of_le hq h.grow) ?_, h.kept q hq hne]
    by_cases hi : nOf T i = 0
    · rw [if_pos hi]; simp
    · rw [if_neg hi]
      intro e2
      exact hne i (by omega) (by first | exact Option.some.inj e2 | exact (Option.some.inj e2).symm)

end Go.Proofs.Ytoaaklhpmhjhkab
