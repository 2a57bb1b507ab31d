/-
  The reference's Load of a file whose head fits.
-/
import Derived.Test.YtoaaklhpmhjhkabLdK
import Derived.Test.YtoaaklhpmhjhkabTcA
namespace Go.Proofs.Ytoaaklhpmhjhkab
open Go.RowKit

theorem NRow.grownNe {g n b : Nat} {f : Nat → Int} {w w' : World} (h : NRow g f n w) (hg : w.grownBy w' (some b)) (hne : g ≠ b) : NRow g f n w' := by
  rcases Nat.eq_zero_or_pos n with h0 | h0
  · intro k hk; omega
  · exact h.blk (hg.block g (h.lt h0) (fun e => hne (by first | exact Option.some.inj e | exact (Option.some.inj e).symm)))
theorem NRow.keepF {g n B : Nat} {f : Nat → Int} {w w' : World} (h : NRow g f n w) (hk : ∀ q, B ≤ q → q < w.heap.size → w'.heap[q]? = w.heap[q]?) (hg : B ≤ g) : NRow g f n w' := by
  rcases Nat.eq_zero_or_pos n with h0 | h0
  · intro k hk; omega
  · exact h.blk (hk g hg (h.lt h0))
/-- What the reference's Load has at hand: its result (at w's end), the tables at t, lists that are there. -/
structure LS (w : World) (t : Nat) (L : List Value) (R : List (Nat × (Nat → Int) × Nat)) (W : World) : Prop where
  T : W.there w.heap.size 0 7
  B : Below w.heap.size w W
  C : TC t L W
  lt : w.heap.size < t
  tl : t < W.heap.size
  N : ∀ x ∈ R, t < x.1 ∧ NRow x.1 x.2.1 x.2.2 W
theorem LS.call {w : World} {t : Nat} {L : List Value} {R : List (Nat × (Nat → Int) × Nat)} {W W' : World} (h : LS w t L R W) (hW : Below W.heap.size W W') : LS w t L R W' :=
  ⟨there_below h.T (by omega) hW, h.B.trans (hW.mono h.B.size), h.C.block (hW.block t h.tl), h.lt, Nat.lt_of_lt_of_le h.tl hW.size, fun x hx => ⟨(h.N x hx).1, (h.N x hx).2.below hW⟩⟩
theorem LS.row {w : World} {t g n : Nat} {f : Nat → Int} {L : List Value} {R : List (Nat × (Nat → Int) × Nat)} {W : World} (h : LS w t L R W) (hg : t < g) (hN : NRow g f n W) : LS w t L ((g, f, n) :: R) W :=
  ⟨h.T, h.B, h.C, h.lt, h.tl, fun x hx => by
    rcases List.mem_cons.1 hx with rfl | hx
    · exact ⟨hg, hN⟩
    · exact h.N x hx⟩
theorem LS.set {w : World} {t : Nat} {L : List Value} {R : List (Nat × (Nat → Int) × Nat)} {W : World} (h : LS w t L R W) (q : Nat) (hq : q < L.length) (u : Value) : LS w t (L.set q u) R (W.setCell ⟨t, q, none⟩ u) := by
  have hlt := h.lt
  have hb : ∀ k, k ≠ t → (W.setCell ⟨t, q, none⟩ u).heap[k]? = W.heap[k]? := fun k hk => Below.heap_setCell W ⟨t, q, none⟩ u k (fun e => hk e)
  have hs : (W.setCell ⟨t, q, none⟩ u).heap.size = W.heap.size := by simp [World.setCell]
  refine ⟨fun j hj => ?_, h.B.setCell (p := ⟨t, q, none⟩) (Nat.le_of_lt hlt) _, h.C.set q hq u, hlt, by rw [hs]; exact h.tl, fun x hx => ⟨(h.N x hx).1, (h.N x hx).2.blk (hb x.1 (by have := (h.N x hx).1; omega))⟩⟩
  rw [World.cell?_of_block (w := W) (a := ⟨w.heap.size, 0 + j, none⟩) (hb w.heap.size (by omega)), World.frozen?_of_block (w := W) (a := ⟨w.heap.size, 0 + j, none⟩) (hb w.heap.size (by omega))]
  exact h.T j hj
theorem LS.put {w : World} {t g j : Nat} {L : List Value} {R : List (Nat × (Nat → Int) × Nat)} {W : World} (h : LS w t L R W) (hg : t < g) (hR : ∀ x ∈ R, x.2.2 = 0 ∨ x.1 < g) (u : Value) : LS w t L R (W.setCell ⟨g, j, none⟩ u) := by
  have hlt := h.lt
  have hb : ∀ k, k ≠ g → (W.setCell ⟨g, j, none⟩ u).heap[k]? = W.heap[k]? := fun k hk => Below.heap_setCell W ⟨g, j, none⟩ u k (fun e => hk e)
  have hs : (W.setCell ⟨g, j, none⟩ u).heap.size = W.heap.size := by simp [World.setCell]
  refine ⟨fun j hj => ?_, h.B.setCell (p := ⟨g, j, none⟩) (show w.heap.size ≤ g by omega) _, h.C.block (hb t (by omega)), hlt, by rw [hs]; exact h.tl, fun x hx => ⟨(h.N x hx).1, ?_⟩⟩
  · rw [World.cell?_of_block (w := W) (a := ⟨w.heap.size, 0 + j, none⟩) (hb w.heap.size (by omega)), World.frozen?_of_block (w := W) (a := ⟨w.heap.size, 0 + j, none⟩) (hb w.heap.size (by omega))]
    exact h.T j hj
  · rcases hR x hx with h0 | h1
    · intro k hk; omega
    · exact (h.N x hx).2.blk (hb x.1 (by omega))
theorem LS.draw {w : World} {t : Nat} {L : List Value} {R : List (Nat × (Nat → Int) × Nat)} {W : World} (h : LS w t L R W) : LS w t L R W.drew :=
  ⟨fun j hj => h.T j hj, h.B.drew, fun k v hv => h.C k v hv, h.lt, h.tl, fun x hx => ⟨(h.N x hx).1, fun k hk => (h.N x hx).2 k hk⟩⟩

end Go.Proofs.Ytoaaklhpmhjhkab
