/-
  The lexer's Tables; the law's loaded.
-/
import Derived.Test.YtoaaklhpmhjhkabLdL
import Derived.Test.YtoaaklhpmhjhkabLdM
namespace Go.Proofs.Ytoaaklhpmhjhkab
open Go.RowKit

/-- What Tables leaves. -/
def TabPost (T : Tb) (w : World) (e : Ending) (w' : World) : Prop :=
  ∃ G : Nat → Nat, e = .returned (.agg ((sixA T G).cells T)) ∧ (∀ i, nOf T i = 0 ∨ w.heap.size ≤ G i) ∧ Apart T G ∧ Six T G (fOf T) w' ∧ Below w.heap.size w w'

set_option maxRecDepth 100000 in
set_option maxHeartbeats 4000000 in
theorem tables_any (b : Nat) (T : Tb) (A : TbA) (w : World) (hs : TbSz T) (h : TbAt b T A w) (hI : TbIn T A w) : Calls Try.prog 11 #[.pointer (some ⟨b, 0, none⟩)] w (TabPost T w) := by
  have hz := zero_tables
  obtain ⟨W0, hW0⟩ : ∃ W, W = w.alloc (.cells #[.int .i64 0, .slice none 0 0, .slice none 0 0, .slice none 0 0, .slice none 0 0, .slice none 0 0, .slice none 0 0] 28) := ⟨_, rfl⟩
  have hT0 : W0.there w.heap.size 0 7 := by rw [hW0]; exact zeroT_there w _
  have hB0 : Below w.heap.size w W0 := by rw [hW0]; exact bel_box _ _
  have hS0 : w.heap.size < W0.heap.size := by rw [hW0]; simp
  have HC : Hid (Calls Try.prog 30 #[.pointer (some ⟨b, 0, none⟩)] W0 (CopyPost T W0)) := copy_any b T A W0 hs (by rw [hW0]; exact h.below (bel_box _ _)) (by rw [hW0]; exact hI.below (bel_box _ _))
  have c0 := h.c0
  clear h hI
  go_enter Try.func11, Try.ntmps11
  go_wp2_with fail
  rw [← hW0]
  clear hW0 c0
  refine HC.out.mono ?_
  rintro e w1 ⟨g1, g2, g3, g4, g5, g6, rfl, hg1, o1, o2, o3, o4, o5, n1, n2, n3, n4, n5, n6, hW1⟩
  have hT1 := there_below hT0 (by omega) hW1
  have hB1 := hB0.trans (hW1.mono (Nat.le_of_lt hS0))
  clear HC hT0 hB0
  have hG := setCells_grown w.heap.size [.int .i64 T.rules, .slice (some ⟨g1, 0, none⟩) T.ncl T.ncl, .slice (some ⟨g2, 0, none⟩) T.nlb T.nlb, .slice (some ⟨g3, 0, none⟩) T.nbs T.nbs, .slice (some ⟨g4, 0, none⟩) T.ndf T.ndf, .slice (some ⟨g5, 0, none⟩) T.nck T.nck, .slice (some ⟨g6, 0, none⟩) T.nnx T.nnx] 0 w1
  have hr' := World.rangeAt_setCells_same w1 w.heap.size 0 [.int .i64 T.rules, .slice (some ⟨g1, 0, none⟩) T.ncl T.ncl, .slice (some ⟨g2, 0, none⟩) T.nlb T.nlb, .slice (some ⟨g3, 0, none⟩) T.nbs T.nbs, .slice (some ⟨g4, 0, none⟩) T.ndf T.ndf, .slice (some ⟨g5, 0, none⟩) T.nck T.nck, .slice (some ⟨g6, 0, none⟩) T.nnx T.nnx] hT1
  have hfin := run_loadVar_mid (P := Try.prog) (w1.setCells w.heap.size 0 [.int .i64 T.rules, .slice (some ⟨g1, 0, none⟩) T.ncl T.ncl, .slice (some ⟨g2, 0, none⟩) T.nlb T.nlb, .slice (some ⟨g3, 0, none⟩) T.nbs T.nbs, .slice (some ⟨g4, 0, none⟩) T.ndf T.ndf, .slice (some ⟨g5, 0, none⟩) T.nck T.nck, .slice (some ⟨g6, 0, none⟩) T.nnx T.nnx]) w.heap.size 0 28 [.int .i64 T.rules, .slice (some ⟨g1, 0, none⟩) T.ncl T.ncl, .slice (some ⟨g2, 0, none⟩) T.nlb T.nlb, .slice (some ⟨g3, 0, none⟩) T.nbs T.nbs, .slice (some ⟨g4, 0, none⟩) T.ndf T.ndf, .slice (some ⟨g5, 0, none⟩) T.nck T.nck, .slice (some ⟨g6, 0, none⟩) T.nnx T.nnx] _ hr' Try.underlying28 rfl info_tables
  obtain ⟨W2, hW2⟩ : ∃ W, W = w1.setCells w.heap.size 0 [.int .i64 T.rules, .slice (some ⟨g1, 0, none⟩) T.ncl T.ncl, .slice (some ⟨g2, 0, none⟩) T.nlb T.nlb, .slice (some ⟨g3, 0, none⟩) T.nbs T.nbs, .slice (some ⟨g4, 0, none⟩) T.ndf T.ndf, .slice (some ⟨g5, 0, none⟩) T.nck T.nck, .slice (some ⟨g6, 0, none⟩) T.nnx T.nnx] := ⟨_, rfl⟩
  rw [← hW2] at hG hfin
  have HW2 : Hid (W2 = w1.setCells w.heap.size 0 [.int .i64 T.rules, .slice (some ⟨g1, 0, none⟩) T.ncl T.ncl, .slice (some ⟨g2, 0, none⟩) T.nlb T.nlb, .slice (some ⟨g3, 0, none⟩) T.nbs T.nbs, .slice (some ⟨g4, 0, none⟩) T.ndf T.ndf, .slice (some ⟨g5, 0, none⟩) T.nck T.nck, .slice (some ⟨g6, 0, none⟩) T.nnx T.nnx]) := hW2
  have Hfin : Hid ((loadVar 28 ⟨w.heap.size, 0, none⟩).run Try.prog W2 = .ok (.agg #[.int .i64 T.rules, .slice (some ⟨g1, 0, none⟩) T.ncl T.ncl, .slice (some ⟨g2, 0, none⟩) T.nlb T.nlb, .slice (some ⟨g3, 0, none⟩) T.nbs T.nbs, .slice (some ⟨g4, 0, none⟩) T.ndf T.ndf, .slice (some ⟨g5, 0, none⟩) T.nck T.nck, .slice (some ⟨g6, 0, none⟩) T.nnx T.nnx]) W2) := hfin
  clear hW2 hr' hfin
  go_wp2_with (first | (refine wpList_store_mid rfl 28 _ _ rfl w.heap.size 0 #[.int .i64 T.rules, .slice (some ⟨g1, 0, none⟩) T.ncl T.ncl, .slice (some ⟨g2, 0, none⟩) T.nlb T.nlb, .slice (some ⟨g3, 0, none⟩) T.nbs T.nbs, .slice (some ⟨g4, 0, none⟩) T.ndf T.ndf, .slice (some ⟨g5, 0, none⟩) T.nck T.nck, .slice (some ⟨g6, 0, none⟩) T.nnx T.nnx] rfl rfl hT1 info_tables (by simp [Value.oneCell']) ?_; rw [List.toList_toArray, ← HW2.out]))
  refine bodyPost_ret (v := .agg #[.int .i64 T.rules, .slice (some ⟨g1, 0, none⟩) T.ncl T.ncl, .slice (some ⟨g2, 0, none⟩) T.nlb T.nlb, .slice (some ⟨g3, 0, none⟩) T.nbs T.nbs, .slice (some ⟨g4, 0, none⟩) T.ndf T.ndf, .slice (some ⟨g5, 0, none⟩) T.nck T.nck, .slice (some ⟨g6, 0, none⟩) T.nnx T.nnx]) (eResults_load1 Try.results11 rfl Hfin.out) rfl ?_
  obtain ⟨x1, y1⟩ := o1
  obtain ⟨x2, y2⟩ := o2
  obtain ⟨x3, y3⟩ := o3
  obtain ⟨x4, y4⟩ := o4
  obtain ⟨x5, y5⟩ := o5
  refine ⟨fun i => match i with | 1 => g1 | 2 => g2 | 3 => g3 | 4 => g4 | 5 => g5 | 6 => g6 | _ => 0, rfl, fun i => ?_, fun i j hij hi hj => ?_, fun i => ?_, hB1.grown hG hB1.size (fun q hq => by cases hq; exact Nat.le_refl _)⟩
  · rcases i with _ | _ | _ | _ | _ | _ | _ | i
    · exact Or.inl rfl
    all_goals first | exact Or.inl rfl | (right; show _ ≤ _; simp only; omega)
  · rcases i with _ | _ | _ | _ | _ | _ | _ | i
    case zero => cases hi
    all_goals first | (cases hi; done) | skip
    all_goals
      simp only [nOf] at hi
      rcases j with _ | _ | _ | _ | _ | _ | _ | j
    all_goals first | (cases hj; done) | (exfalso; omega) | (simp only [nOf] at hi hj; simp only; omega)
  · rcases i with _ | _ | _ | _ | _ | _ | _ | i
    · intro k hk; cases hk
    · exact n1.grownNe hG (by omega)
    · exact n2.grownNe hG (by omega)
    · exact n3.grownNe hG (by omega)
    · exact n4.grownNe hG (by omega)
    · exact n5.grownNe hG (by omega)
    · exact n6.grownNe hG (by omega)
    · intro k hk; cases hk
end Go.Proofs.Ytoaaklhpmhjhkab
