/-
  Cells of a block.
-/
import Derived.Test.YtoaaklhpmhjhkabEncB
namespace Go.Proofs.Ytoaaklhpmhjhkab
open Go.RowKit

/-- Cells of a block that may be written over. -/
def TC (t : Nat) (L : List Value) (w : World) : Prop := ∀ k v, L[k]? = some v → w.cell? ⟨t, k, none⟩ = some v ∧ w.frozen? ⟨t, k, none⟩ = false
theorem TC.block {t : Nat} {L : List Value} {w w' : World} (h : TC t L w) (hb : w'.heap[t]? = w.heap[t]?) : TC t L w' := fun k v hv => by
  rw [World.cell?_of_block (w := w) (a := ⟨t, k, none⟩) hb, World.frozen?_of_block (w := w) (a := ⟨t, k, none⟩) hb]; exact h k v hv
theorem TC.lt {t : Nat} {v : Value} {L : List Value} {w : World} (h : TC t (v :: L) w) : t < w.heap.size := World.block_lt_of_cell? w _ (h 0 v rfl).1
theorem TC.below {t : Nat} {v : Value} {L : List Value} {w w' : World} (h : TC t (v :: L) w) (hW : Below w.heap.size w w') : TC t (v :: L) w' := h.block (hW.block t h.lt)
theorem TC.set {t : Nat} {L : List Value} {w : World} (h : TC t L w) (q : Nat) (hq : q < L.length) (u : Value) : TC t (L.set q u) (w.setCell ⟨t, q, none⟩ u) := fun k v hv => by
  rw [World.frozen?_setCell]
  by_cases e : k = q
  · subst e
    rw [List.getElem?_set_self hq] at hv
    obtain ⟨h1, h2⟩ := h k L[k] (List.getElem?_eq_getElem hq)
    cases hv
    exact ⟨World.cell?_setCell_same w ⟨t, k, none⟩ u (by rw [h1]), h2⟩
  · rw [List.getElem?_set_ne (fun x => e x.symm)] at hv
    obtain ⟨h1, h2⟩ := h k v hv
    exact ⟨by rw [World.cell?_setCell_other _ _ _ _ (by intro he; cases he; exact e rfl)]; exact h1, h2⟩
theorem TC.range {t : Nat} {L : List Value} {w : World} (h : TC t L w) : w.rangeAt t 0 L := fun k v hv => by rw [Nat.zero_add]; exact (h k v hv).1
theorem TC.boxed (w : World) (L : List Value) (ty : TypeId) : TC w.heap.size L (w.alloc (.cells L.toArray ty)) := fun k v hv => by
  refine ⟨by rw [World.cell?_alloc_new]; simpa using hv, ?_⟩
  go_simp
theorem TC.laid {t : Nat} {L : List Value} {w : World} (hth : w.there t 0 L.length) : TC t L (w.setCells t 0 L) := fun k v hv => by
  have h1 := World.rangeAt_setCells_same w t 0 L hth k v hv
  have hk : k < L.length := by
    rcases Nat.lt_or_ge k L.length with h | h
    · exact h
    · rw [List.getElem?_eq_none h] at hv; cases hv
  have h2 := (hth k hk).2
  rw [Nat.zero_add] at h1 h2
  refine ⟨h1, ?_⟩
  rw [World.frozen?_setCells]; exact h2
theorem eOwns_below {w w' : World} {base : Nat} {e : TypeId} {sz n : Nat} {v : Value} {xs : List Value} (h : w.ownsRow base e sz v n xs) (hW : Below w.heap.size w w') : w'.ownsRow base e sz v n xs := by
  refine ⟨h.1, ?_⟩
  rcases h.2 with h0 | ⟨g', cap', cur, hv', hb, hg, hrest⟩
  · exact Or.inl h0
  · refine Or.inr ⟨g', cap', cur, hv', hb, ?_, hrest⟩
    rw [hW.block g' ?_]; exact hg
    rcases Nat.lt_or_ge g' w.heap.size with hlt | hge
    · exact hlt
    · rw [Array.getElem?_eq_none hge] at hg; cases hg
end Go.Proofs.Ytoaaklhpmhjhkab
