/-
  The law's stillMachine, fullMachine.
-/
import Derived.Test.YtoaaklhpmhjhkaaPkN
namespace Go.Proofs.Ytoaaklhpmhjhkaa
open Go.RowKit
open Bm

set_option maxRecDepth 100000 in
set_option maxHeartbeats 4000000 in
theorem stillMachine_any (M : Mc) (A : McA) (g1 g2 g3 : Nat) (w : World) (hs : McSz M) (hH : HM M g1 g2 g3 w) (hI : McIn M A w) :
    Calls Try.prog 52 #[.agg ((hmA M g1 g2 g3).cells M), .agg (A.cells M)] w fun e w' => e = .returned (.bool true) ∧ Below w.heap.size w w' := by
  obtain ⟨W0, hW0⟩ : ∃ W, W = w.alloc (.cells ((hmA M g1 g2 g3).cells M) 49) := ⟨_, rfl⟩
  obtain ⟨W, hW⟩ : ∃ W, W = W0.alloc (.cells (A.cells M) 49) := ⟨_, rfl⟩
  have x0 : Below w.heap.size w W0 := by rw [hW0]; exact bel_box _ _
  have x1 : Below W0.heap.size W0 W := by rw [hW]; exact bel_box _ _
  have z0 : W0.heap.size = w.heap.size + 1 := by rw [hW0]; simp
  have hB2 := x0.trans (x1.mono x0.size)
  have hAt1 : McAt w.heap.size M (hmA M g1 g2 g3) W := by
    have h : McAt w.heap.size M (hmA M g1 g2 g3) W0 := by rw [hW0]; exact McAt.boxed M _ w _
    exact h.below x1
  have hAt2 : McAt (w.heap.size + 1) M A W := by rw [← z0, hW]; exact McAt.boxed M A W0 _
  have hH2 := hH.below hB2
  have hI2 := hI.below hB2
  rw [hW0] at hW
  have HAt : Hid (∀ w', Below W.heap.size W w' → McAt w.heap.size M (hmA M g1 g2 g3) w' ∧ McAt (w.heap.size + 1) M A w') := fun w' h' => ⟨hAt1.below h', hAt2.below h'⟩
  have HC1 : Hid (∀ w', Below W.heap.size W w' → Calls Try.prog 71 #[.slice (some ⟨g1, 0, none⟩) M.ncl (M.ncl + 3), .slice A.a1 M.ncl A.c1] w' fun e w'' => e = .returned (.bool true) ∧ Below w'.heap.size w' w'') := fun w' h' => stillI_any g1 M.ncl A.c1 A.a1 M.cl w' hs.s1 (hH2.r1.below h') (hI2.l1.below h')
  have HC2 : Hid (∀ w', Below W.heap.size W w' → Calls Try.prog 71 #[.slice (some ⟨g2, 0, none⟩) M.nlb (M.nlb + 3), .slice A.a2 M.nlb A.c2] w' fun e w'' => e = .returned (.bool true) ∧ Below w'.heap.size w' w'') := fun w' h' => stillI_any g2 M.nlb A.c2 A.a2 M.lb w' hs.s2 (hH2.r2.below h') (hI2.l2.below h')
  have HC3 : Hid (∀ w', Below W.heap.size W w' → Calls Try.prog 71 #[.slice (some ⟨g3, 0, none⟩) M.nnx (M.nnx + 3), .slice A.a3 M.nnx A.c3] w' fun e w'' => e = .returned (.bool true) ∧ Below w'.heap.size w' w'') := fun w' h' => stillI_any g3 M.nnx A.c3 A.a3 M.nx w' hs.s3 (hH2.r3.below h') (hI2.l3.below h')
  have hA0 : Below W.heap.size W W := Below.refl _ _
  have HB2 : Hid (Below w.heap.size w W) := hB2
  have p1 := hAt1.c1
  have q1 := hAt2.c1
  unfold hmA McA.cells at *
  simp only at *
  rw [hW] at p1 q1
  have HW : Hid (W = (w.alloc (.cells #[.int .i64 M.rules, .slice (some ⟨g1, 0, none⟩) M.ncl (M.ncl + 3), .slice (some ⟨g2, 0, none⟩) M.nlb (M.nlb + 3), .slice (some ⟨g3, 0, none⟩) M.nnx (M.nnx + 3)] 49)).alloc (.cells #[.int .i64 M.rules, .slice A.a1 M.ncl A.c1, .slice A.a2 M.nlb A.c2, .slice A.a3 M.nnx A.c3] 49)) := hW
  clear hAt1 hAt2 hH2 hI2 hH hI hB2 hs hW hW0 x0 x1 z0
  go_enter Try.func52, Try.ntmps52
  go_wp2_with fail
  rw [← HW.out]
  clear HW p1 q1
  refine Calls.mono (HC1.out _ hA0) ?_
  rintro e w1 ⟨rfl, hD1⟩
  have hA1 := hA0.trans (hD1.mono hA0.size)
  have p := (HAt.out w1 hA1).1.c2
  have q := (HAt.out w1 hA1).2.c2
  simp only at p q
  go_wp2_with fail
  clear p q
  refine Calls.mono (HC2.out _ hA1) ?_
  rintro e w2 ⟨rfl, hD2⟩
  have hA2 := hA1.trans (hD2.mono hA1.size)
  have p := (HAt.out w2 hA2).1.c3
  have q := (HAt.out w2 hA2).2.c3
  simp only at p q
  go_wp2_with fail
  clear p q
  refine Calls.mono (HC3.out _ hA2) ?_
  rintro e w3 ⟨rfl, hD3⟩
  have hA3 := hA2.trans (hD3.mono hA2.size)
  have p := (HAt.out w3 hA3).1.c0
  have q := (HAt.out w3 hA3).2.c0
  go_wp2_with fail
  go_ret
  exact ⟨ret_bool (by simp), HB2.out.trans (hA3.mono HB2.out.size)⟩

set_option maxRecDepth 100000 in
set_option maxHeartbeats 4000000 in
theorem fullMachine_any (M : Mc) (g1 g2 g3 B : Nat) (w : World) (hs : McSz M) (hH : HM M g1 g2 g3 w) (hg : B ≤ g1 ∧ g1 < g2 ∧ g2 < g3) (hB : B ≤ w.heap.size) :
    Calls Try.prog 53 #[.agg ((hmA M g1 g2 g3).cells M)] w fun e w' => e = .returned (.tuple #[]) ∧ Below B w w' ∧ (∀ q, q < w.heap.size → q ≠ g1 → q ≠ g2 → q ≠ g3 → w'.heap[q]? = w.heap[q]?) ∧ w.heap.size ≤ w'.heap.size := by
  obtain ⟨W, hW⟩ : ∃ W, W = w.alloc (.cells ((hmA M g1 g2 g3).cells M) 49) := ⟨_, rfl⟩
  have x0 : Below w.heap.size w W := by rw [hW]; exact bel_box _ _
  have z0 : W.heap.size = w.heap.size + 1 := by rw [hW]; simp
  have hAt : McAt w.heap.size M (hmA M g1 g2 g3) W := by rw [hW]; exact McAt.boxed M _ w _
  have l1 := hH.r1.lt (by omega)
  have l2 := hH.r2.lt (by omega)
  have l3 := hH.r3.lt (by omega)
  have b1 : M.ncl + 3 ≤ maxLen := by have := hs.s1; unfold maxLen; omega
  have b2 : M.nlb + 3 ≤ maxLen := by have := hs.s2; unfold maxLen; omega
  have b3 : M.nnx + 3 ≤ maxLen := by have := hs.s3; unfold maxLen; omega
  have R1 : Rm (.slice (some ⟨g1, 0, none⟩) M.ncl (M.ncl + 3)) g1 (M.ncl + 3) W := (hH.r1.below x0).rm (by omega) b1
  have R2 : Rm (.slice (some ⟨g2, 0, none⟩) M.nlb (M.nlb + 3)) g2 (M.nlb + 3) W := (hH.r2.below x0).rm (by omega) b2
  have R3 : Rm (.slice (some ⟨g3, 0, none⟩) M.nnx (M.nnx + 3)) g3 (M.nnx + 3) W := (hH.r3.below x0).rm (by omega) b3
  have p1 := hAt.c1
  unfold hmA McA.cells at *
  simp only at *
  rw [hW] at p1
  have HW : Hid (W = w.alloc (.cells #[.int .i64 M.rules, .slice (some ⟨g1, 0, none⟩) M.ncl (M.ncl + 3), .slice (some ⟨g2, 0, none⟩) M.nlb (M.nlb + 3), .slice (some ⟨g3, 0, none⟩) M.nnx (M.nnx + 3)] 49)) := hW
  have HAt : Hid (w.heap.size < W.heap.size ∧ W.cell? ⟨w.heap.size, 2, none⟩ = some (.slice (some ⟨g2, 0, none⟩) M.nlb (M.nlb + 3)) ∧ W.cell? ⟨w.heap.size, 3, none⟩ = some (.slice (some ⟨g3, 0, none⟩) M.nnx (M.nnx + 3))) := ⟨by omega, hAt.c2, hAt.c3⟩
  have HR2 : Hid (Rm (.slice (some ⟨g2, 0, none⟩) M.nlb (M.nlb + 3)) g2 (M.nlb + 3) W) := R2
  have HR3 : Hid (Rm (.slice (some ⟨g3, 0, none⟩) M.nnx (M.nnx + 3)) g3 (M.nnx + 3) W) := R3
  clear hW hH hAt hs R2 R3 b1 b2 b3
  go_enter Try.func53, Try.ntmps53
  go_wp2_with fail
  rw [← HW.out]
  clear HW p1
  refine Calls.mono (fullR_any _ g1 (M.ncl + 3) 7777777 _ R1) ?_
  rintro e w1 ⟨rfl, _, k1, y1⟩
  rw [if_neg (by omega)] at k1
  have c1 : ∀ q, q < W.heap.size → q ≠ g1 → w1.heap[q]? = W.heap[q]? := fun q hq hn => k1.block q hq (fun e => hn (Option.some.inj e))
  have p2 : w1.cell? ⟨w.heap.size, 2, none⟩ = some (.slice (some ⟨g2, 0, none⟩) M.nlb (M.nlb + 3)) := by
    rw [World.cell?_of_block (w := W) (a := ⟨w.heap.size, 2, none⟩) (c1 w.heap.size (by omega) (by omega))]; exact HAt.out.2.1
  go_wp2_with fail
  clear p2
  refine Calls.mono (fullR_any _ g2 (M.nlb + 3) 7777778 _ (HR2.out.blk (fun _ => c1 g2 (by omega) (by omega)))) ?_
  rintro e w2 ⟨rfl, _, k2, y2⟩
  rw [if_neg (by omega)] at k2
  have c2 : ∀ q, q < W.heap.size → q ≠ g1 → q ≠ g2 → w2.heap[q]? = W.heap[q]? := fun q hq h1 h2 => by
    rw [k2.block q (by omega) (fun e => h2 (Option.some.inj e)), c1 q hq h1]
  have p3 : w2.cell? ⟨w.heap.size, 3, none⟩ = some (.slice (some ⟨g3, 0, none⟩) M.nnx (M.nnx + 3)) := by
    rw [World.cell?_of_block (w := W) (a := ⟨w.heap.size, 3, none⟩) (c2 w.heap.size (by omega) (by omega) (by omega))]; exact HAt.out.2.2
  go_wp2_with fail
  clear p3
  refine Calls.mono (fullR_any _ g3 (M.nnx + 3) 7777779 _ (HR3.out.blk (fun _ => c2 g3 (by omega) (by omega) (by omega)))) ?_
  rintro e w3 ⟨rfl, _, k3, y3⟩
  rw [if_neg (by omega)] at k3
  go_wp2_with fail
  go_end0
  refine ⟨rfl, ?_, fun q hq h1 h2 h3 => ?_, by omega⟩
  · exact ((((x0.mono hB).grown k1 (by omega) (fun q hq => by cases hq; omega)).grown k2 (by omega) (fun q hq => by cases hq; omega)).grown k3 (by omega) (fun q hq => by cases hq; omega))
  · rw [k3.block q (by omega) (fun e => h3 (Option.some.inj e)), c2 q (by omega) h1 h2, x0.block q hq]
end Go.Proofs.Ytoaaklhpmhjhkaa
