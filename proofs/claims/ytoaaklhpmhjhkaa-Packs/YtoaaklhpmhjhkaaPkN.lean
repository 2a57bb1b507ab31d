/-
  The law's handedMachine, stillMachine, fullMachine.
-/
import Derived.Test.YtoaaklhpmhjhkaaPkM
import Derived.Test.YtoaaklhpmhjhkaaKpB
namespace Go.Proofs.Ytoaaklhpmhjhkaa
open Go.RowKit
open Bm

/-- Where a machine's lists lie that was handed in. -/
def hmA (M : Mc) (g1 g2 g3 : Nat) : McA := ⟨some ⟨g1, 0, none⟩, M.ncl + 3, some ⟨g2, 0, none⟩, M.nlb + 3, some ⟨g3, 0, none⟩, M.nnx + 3⟩
structure HM (M : Mc) (g1 g2 g3 : Nat) (w : World) : Prop where
  r1 : NRow g1 (handedI M.cl M.ncl) (M.ncl + 3) w
  r2 : NRow g2 (handedI M.lb M.nlb) (M.nlb + 3) w
  r3 : NRow g3 (handedI M.nx M.nnx) (M.nnx + 3) w
theorem HM.below {M : Mc} {g1 g2 g3 : Nat} {w w' : World} (h : HM M g1 g2 g3 w) (hW : Below w.heap.size w w') : HM M g1 g2 g3 w' := ⟨h.r1.below hW, h.r2.below hW, h.r3.below hW⟩
theorem handed_il {g n : Nat} {f : Nat → Int} {w : World} (h : NRow g (handedI f n) (n + 3) w) : IL (some ⟨g, 0, none⟩) f n w := fun i hi => ⟨g, 0, rfl, by have := (h i (by omega)).1; simpa [handedI, hi] using this⟩
theorem HM.in_ {M : Mc} {g1 g2 g3 : Nat} {w : World} (h : HM M g1 g2 g3 w) : McIn M (hmA M g1 g2 g3) w := ⟨handed_il h.r1, handed_il h.r2, handed_il h.r3⟩

set_option maxRecDepth 100000 in
set_option maxHeartbeats 4000000 in
theorem handedMachine_any (M : Mc) (A : McA) (w : World) (hs : McSz M) (hI : McIn M A w) :
    Calls Try.prog 50 #[.agg (A.cells M)] w fun e w' => ∃ g1 g2 g3, e = .returned (.agg ((hmA M g1 g2 g3).cells M)) ∧ HM M g1 g2 g3 w' ∧ (w.heap.size ≤ g1 ∧ g1 < g2 ∧ g2 < g3) ∧ Below w.heap.size w w' := by
  have hz := zero_machine
  obtain ⟨W0, hW0⟩ : ∃ W, W = w.alloc (.cells (A.cells M) 49) := ⟨_, rfl⟩
  obtain ⟨Wr, hWr⟩ : ∃ W, W = W0.alloc (.cells #[.int .i64 0, .slice none 0 0, .slice none 0 0, .slice none 0 0] 49) := ⟨_, rfl⟩
  have x0 : Below w.heap.size w W0 := by rw [hW0]; exact bel_box _ _
  have x1 : Below W0.heap.size W0 Wr := by rw [hWr]; exact bel_box _ _
  have z0 : W0.heap.size = w.heap.size + 1 := by rw [hW0]; simp
  have zr : Wr.heap.size = w.heap.size + 2 := by rw [hWr]; simp [z0]
  have hTr : Wr.there (w.heap.size + 1) 0 4 := by rw [← z0, hWr]; exact zeroM_there W0 _
  have x2 := x0.trans (x1.mono x0.size)
  have hAt : McAt w.heap.size M A Wr := by
    have h : McAt w.heap.size M A W0 := by rw [hW0]; exact McAt.boxed M A w _
    exact h.below x1
  have hIr := hI.below x2
  have HC1 : Hid (∀ w', Below Wr.heap.size Wr w' → Calls Try.prog 67 #[.slice A.a1 M.ncl A.c1] w' fun e w'' => e = .returned (.slice (some ⟨w'.heap.size, 0, none⟩) M.ncl (M.ncl + 3)) ∧ NRow w'.heap.size (handedI M.cl M.ncl) (M.ncl + 3) w'' ∧ Below w'.heap.size w' w'') := fun w' h' => handedI_any A.a1 M.ncl A.c1 M.cl w' hs.s1 (hIr.l1.below h')
  have HC2 : Hid (∀ w', Below Wr.heap.size Wr w' → Calls Try.prog 67 #[.slice A.a2 M.nlb A.c2] w' fun e w'' => e = .returned (.slice (some ⟨w'.heap.size, 0, none⟩) M.nlb (M.nlb + 3)) ∧ NRow w'.heap.size (handedI M.lb M.nlb) (M.nlb + 3) w'' ∧ Below w'.heap.size w' w'') := fun w' h' => handedI_any A.a2 M.nlb A.c2 M.lb w' hs.s2 (hIr.l2.below h')
  have HC3 : Hid (∀ w', Below Wr.heap.size Wr w' → Calls Try.prog 67 #[.slice A.a3 M.nnx A.c3] w' fun e w'' => e = .returned (.slice (some ⟨w'.heap.size, 0, none⟩) M.nnx (M.nnx + 3)) ∧ NRow w'.heap.size (handedI M.nx M.nnx) (M.nnx + 3) w'' ∧ Below w'.heap.size w' w'') := fun w' h' => handedI_any A.a3 M.nnx A.c3 M.nx w' hs.s3 (hIr.l3.below h')
  have HSc : Hid (∀ w', Below Wr.heap.size Wr w' → w'.cell? ⟨w.heap.size, 0, none⟩ = some (.int .i64 M.rules) ∧ w'.cell? ⟨w.heap.size, 1, none⟩ = some (.slice A.a1 M.ncl A.c1) ∧ w'.cell? ⟨w.heap.size, 2, none⟩ = some (.slice A.a2 M.nlb A.c2) ∧ w'.cell? ⟨w.heap.size, 3, none⟩ = some (.slice A.a3 M.nnx A.c3)) := fun w' h' => by
    obtain ⟨q0, q1, q2, q3⟩ := hAt.below h'
    exact ⟨q0, q1, q2, q3⟩
  have HTr : Hid (Wr.there (w.heap.size + 1) 0 4) := hTr
  have HX : Hid (Below w.heap.size w Wr) := x2
  have Hzr : Hid (Wr.heap.size = w.heap.size + 2) := zr
  have hA0 : Below Wr.heap.size Wr Wr.drew := (Below.refl _ _).drew
  rw [hW0] at hWr
  unfold McA.cells at hWr
  have HWr : Hid (Wr = (w.alloc (.cells #[.int .i64 M.rules, .slice A.a1 M.ncl A.c1, .slice A.a2 M.nlb A.c2, .slice A.a3 M.nnx A.c3] 49)).alloc (.cells #[.int .i64 0, .slice none 0 0, .slice none 0 0, .slice none 0 0] 49)) := hWr
  unfold McA.cells
  clear x0 x1 z0 zr hTr x2 hAt hIr hI hW0 hWr hs
  go_enter Try.func50, Try.ntmps50
  go_wp2_with fail
  rw [← HWr.out]
  clear HWr
  refine wp_region_held_drew (S := fun w' => w'.cell? ⟨w.heap.size, 0, none⟩ = some (.int .i64 M.rules) ∧ w'.cell? ⟨w.heap.size, 1, none⟩ = some (.slice A.a1 M.ncl A.c1) ∧ w'.cell? ⟨w.heap.size, 2, none⟩ = some (.slice A.a2 M.nlb A.c2) ∧ w'.cell? ⟨w.heap.size, 3, none⟩ = some (.slice A.a3 M.nnx A.c3)) (by kernel_rfl) (HSc.out _ hA0) (fun hHeld => ?_)
  refine wpAnyH_take (i := 0) (oi := ?o0) (v := ?v0) ?hi0 ?hs0 ?hf0 ?hr0 ?hQ0 (Or.inl ⟨?hw0, ?hy0⟩) ?hS0 ?rest0
  case hi0 => simp only [List.getElem?_toArray, List.getElem?_cons_zero]; rfl
  case hs0 => kernel_rfl
  case hf0 => kernel_rfl
  case hr0 => kernel_rfl
  case hQ0 => exact fun _ _ _ h => h
  case hS0 => assumption
  case hw0 => rfl
  case hy0 => intro w' hSw; (try dsimp only at hSw); go_simp; first | done | with_reducible rfl
  (try simp only [Act.put, List.setIfInBounds_toArray, List.set_cons_zero, List.set_cons_succ])
  refine wpAnyH_take (i := 1) (oi := ?o1) (v := ?v1) ?hi1 ?hs1 ?hf1 ?hr1 ?hQ1 (Or.inl ⟨?hw1, ?hy1⟩) ?hS1 ?rest1
  case hi1 => simp only [List.getElem?_toArray, List.getElem?_cons_succ, List.getElem?_cons_zero]; rfl
  case hs1 => kernel_rfl
  case hf1 => kernel_rfl
  case hr1 => kernel_rfl
  case hQ1 => exact fun _ _ _ h => h
  case hS1 => assumption
  case hw1 => rfl
  case hy1 => intro w' hSw; (try dsimp only at hSw); go_simp; first | done | with_reducible rfl
  (try simp only [Act.put, List.setIfInBounds_toArray, List.set_cons_zero, List.set_cons_succ])
  refine wpAnyH_take (i := 2) (oi := ?o2) (v := ?v2) ?hi2 ?hs2 ?hf2 ?hr2 ?hQ2 (Or.inl ⟨?hw2, ?hy2⟩) ?hS2 ?rest2
  case hi2 => simp only [List.getElem?_toArray, List.getElem?_cons_succ, List.getElem?_cons_zero]; rfl
  case hs2 => kernel_rfl
  case hf2 => kernel_rfl
  case hr2 => kernel_rfl
  case hQ2 => exact fun _ _ _ h => h
  case hS2 => assumption
  case hw2 => rfl
  case hy2 => intro w' hSw; (try dsimp only at hSw); go_simp; first | done | with_reducible rfl
  (try simp only [Act.put, List.setIfInBounds_toArray, List.set_cons_zero, List.set_cons_succ])
  refine wpAnyH_take (i := 3) (oi := ?o3) (v := ?v3) ?hi3 ?hs3 ?hf3 ?hr3 ?hQ3 (Or.inl ⟨?hw3, ?hy3⟩) ?hS3 ?rest3
  case hi3 => simp only [List.getElem?_toArray, List.getElem?_cons_succ, List.getElem?_cons_zero]; rfl
  case hs3 => kernel_rfl
  case hf3 => kernel_rfl
  case hr3 => kernel_rfl
  case hQ3 => exact fun _ _ _ h => h
  case hS3 => assumption
  case hw3 => rfl
  case hy3 => intro w' hSw; (try dsimp only at hSw); go_simp; first | done | with_reducible rfl
  (try simp only [Act.put, List.setIfInBounds_toArray, List.set_cons_zero, List.set_cons_succ])
  refine wpAnyH_take (i := 5) (oi := ?o5) (v := ?v5) ?hi5 ?hs5 ?hf5 ?hr5 ?hQ5 (Or.inl ⟨?hw5, ?hy5⟩) ?hS5 ?rest5
  case hi5 => simp only [List.getElem?_toArray, List.getElem?_cons_succ, List.getElem?_cons_zero]; rfl
  case hs5 => kernel_rfl
  case hf5 => kernel_rfl
  case hr5 => kernel_rfl
  case hQ5 => exact fun _ _ _ h => h
  case hS5 => assumption
  case hw5 => rfl
  case hy5 => intro w' hSw; (try dsimp only at hSw); go_simp; first | done | with_reducible rfl
  (try simp only [Act.put, List.setIfInBounds_toArray, List.set_cons_zero, List.set_cons_succ])
  refine wpAnyH_take (i := 6) (oi := ?o6) (v := ?v6) ?hi6 ?hs6 ?hf6 ?hr6 ?hQ6 (Or.inl ⟨?hw6, ?hy6⟩) ?hS6 ?rest6
  case hi6 => simp only [List.getElem?_toArray, List.getElem?_cons_succ, List.getElem?_cons_zero]; rfl
  case hs6 => kernel_rfl
  case hf6 => kernel_rfl
  case hr6 => kernel_rfl
  case hQ6 => exact fun _ _ _ h => h
  case hS6 => assumption
  case hw6 => rfl
  case hy6 => intro w' hSw; (try dsimp only at hSw); go_simp; first | done | with_reducible rfl
  (try simp only [Act.put, List.setIfInBounds_toArray, List.set_cons_zero, List.set_cons_succ])
  refine wpAnyH_take (i := 8) (oi := ?o8) (v := ?v8) ?hi8 ?hs8 ?hf8 ?hr8 ?hQ8 (Or.inl ⟨?hw8, ?hy8⟩) ?hS8 ?rest8
  case hi8 => simp only [List.getElem?_toArray, List.getElem?_cons_succ, List.getElem?_cons_zero]; rfl
  case hs8 => kernel_rfl
  case hf8 => kernel_rfl
  case hr8 => kernel_rfl
  case hQ8 => exact fun _ _ _ h => h
  case hS8 => assumption
  case hw8 => rfl
  case hy8 => intro w' hSw; (try dsimp only at hSw); go_simp; first | done | with_reducible rfl
  (try simp only [Act.put, List.setIfInBounds_toArray, List.set_cons_zero, List.set_cons_succ])
  refine wpAnyH_take (i := 9) (oi := ?o9) (v := ?v9) ?hi9 ?hs9 ?hf9 ?hr9 ?hQ9 (Or.inl ⟨?hw9, ?hy9⟩) ?hS9 ?rest9
  case hi9 => simp only [List.getElem?_toArray, List.getElem?_cons_succ, List.getElem?_cons_zero]; rfl
  case hs9 => kernel_rfl
  case hf9 => kernel_rfl
  case hr9 => kernel_rfl
  case hQ9 => exact fun _ _ _ h => h
  case hS9 => assumption
  case hw9 => rfl
  case hy9 => intro w' hSw; (try dsimp only at hSw); go_simp; first | done | with_reducible rfl
  (try simp only [Act.put, List.setIfInBounds_toArray, List.set_cons_zero, List.set_cons_succ])
  refine wpAnyH_ready (rs := [4]) (by kernel_rfl) (by simp) ?_
  refine AllReadyH.cons (o := ?o4) ?hi4 (fun K hK => ?_) AllReadyH.nil
  case hi4 => simp only [List.getElem?_toArray, List.getElem?_cons_succ, List.getElem?_cons_zero]; rfl
  go_simp
  refine Calls.mono (HC1.out _ hA0) ?_
  rintro e w1 ⟨rfl, hN1, hD1⟩
  have hA1 := hA0.trans (hD1.mono hA0.size)
  go_wp2_with fail
  refine hK.out _ _ (HSc.out _ hA1) (fun hHeld => ?_)
  clear hK K
  (try simp only [Act.put, List.setIfInBounds_toArray, List.set_cons_zero, List.set_cons_succ])
  refine wpAnyH_ready (rs := [7]) (by kernel_rfl) (by simp) ?_
  refine AllReadyH.cons (o := ?o7) ?hi7 (fun K hK => ?_) AllReadyH.nil
  case hi7 => simp only [List.getElem?_toArray, List.getElem?_cons_succ, List.getElem?_cons_zero]; rfl
  go_simp
  refine Calls.mono (HC2.out _ hA1) ?_
  rintro e w2 ⟨rfl, hN2, hD2⟩
  have hA2 := hA1.trans (hD2.mono hA1.size)
  go_wp2_with fail
  refine hK.out _ _ (HSc.out _ hA2) (fun hHeld => ?_)
  clear hK K
  (try simp only [Act.put, List.setIfInBounds_toArray, List.set_cons_zero, List.set_cons_succ])
  refine wpAnyH_ready (rs := [10]) (by kernel_rfl) (by simp) ?_
  refine AllReadyH.cons (o := ?o10) ?hi10 (fun K hK => ?_) AllReadyH.nil
  case hi10 => simp only [List.getElem?_toArray, List.getElem?_cons_succ, List.getElem?_cons_zero]; rfl
  go_simp
  refine Calls.mono (HC3.out _ hA2) ?_
  rintro e w3 ⟨rfl, hN3, hD3⟩
  have hA3 := hA2.trans (hD3.mono hA2.size)
  go_wp2_with fail
  refine hK.out _ _ (HSc.out _ hA3) (fun hHeld => ?_)
  clear hK K
  (try simp only [Act.put, List.setIfInBounds_toArray, List.set_cons_zero, List.set_cons_succ])
  refine wpAnyH_take (i := 11) (oi := ?o11) (v := ?v11) ?hi11 ?hs11 ?hf11 ?hr11 ?hQ11 (Or.inl ⟨?hw11, ?hy11⟩) ?hS11 ?rest11
  case hi11 => simp only [List.getElem?_toArray, List.getElem?_cons_succ, List.getElem?_cons_zero]; rfl
  case hs11 => kernel_rfl
  case hf11 => kernel_rfl
  case hr11 => kernel_rfl
  case hQ11 => exact fun _ _ _ h => h
  case hS11 => assumption
  case hw11 => rfl
  case hy11 => intro w' hSw; (try dsimp only at hSw); go_simp; first | done | with_reducible rfl
  (try simp only [Act.put, List.setIfInBounds_toArray, List.set_cons_zero, List.set_cons_succ])
  refine wpAnyH_ready (rs := [12]) (by kernel_rfl) (by simp) ?_
  refine AllReadyH.cons (o := ?o12) ?hi12 (fun K hK => ?_) AllReadyH.nil
  case hi12 => simp only [List.getElem?_toArray, List.getElem?_cons_succ, List.getElem?_cons_zero]; rfl
  rw [if_pos (by rfl)]
  have e0 := hA0.size
  have e1 := hA1.size
  have e2 := hA2.size
  have e3 := hA3.size
  have hzr := Hzr.out
  have hth : w3.there (w.heap.size + 1) 0 4 := there_below HTr.out (by omega) hA3
  have l1 : Wr.heap.size < w1.heap.size := hN1.lt (by omega)
  have l2 := hN2.lt (by omega)
  have e12 := hD2.size
  have e23 := hD3.size
  obtain ⟨W7, hW7⟩ : ∃ W7, W7 = w3.setCells (w.heap.size + 1) 0 [.int .i64 M.rules, .slice (some ⟨Wr.heap.size, 0, none⟩) M.ncl (M.ncl + 3), .slice (some ⟨w1.heap.size, 0, none⟩) M.nlb (M.nlb + 3), .slice (some ⟨w2.heap.size, 0, none⟩) M.nnx (M.nnx + 3)] := ⟨_, rfl⟩
  have G7 : w3.grownBy W7 (some (w.heap.size + 1)) := by rw [hW7]; exact setCells_grown _ _ 0 w3
  have R7 : W7.rangeAt (w.heap.size + 1) 0 [.int .i64 M.rules, .slice (some ⟨Wr.heap.size, 0, none⟩) M.ncl (M.ncl + 3), .slice (some ⟨w1.heap.size, 0, none⟩) M.nlb (M.nlb + 3), .slice (some ⟨w2.heap.size, 0, none⟩) M.nnx (M.nnx + 3)] := by rw [hW7]; exact World.rangeAt_setCells_same _ _ _ _ hth
  have kc : ∀ k, W7.cell? ⟨w.heap.size, k, none⟩ = w3.cell? ⟨w.heap.size, k, none⟩ := fun k => World.cell?_of_block (w := w3) (a := ⟨w.heap.size, k, none⟩) (G7.block w.heap.size (by omega) (by simp))
  have S7 : W7.cell? ⟨w.heap.size, 0, none⟩ = some (.int .i64 M.rules) ∧ W7.cell? ⟨w.heap.size, 1, none⟩ = some (.slice A.a1 M.ncl A.c1) ∧ W7.cell? ⟨w.heap.size, 2, none⟩ = some (.slice A.a2 M.nlb A.c2) ∧ W7.cell? ⟨w.heap.size, 3, none⟩ = some (.slice A.a3 M.nnx A.c3) := by
    rw [kc, kc, kc, kc]; exact HSc.out _ hA3
  refine wp_store_mid 49 _ _ rfl (w.heap.size + 1) 0 #[.int .i64 M.rules, .slice (some ⟨Wr.heap.size, 0, none⟩) M.ncl (M.ncl + 3), .slice (some ⟨w1.heap.size, 0, none⟩) M.nlb (M.nlb + 3), .slice (some ⟨w2.heap.size, 0, none⟩) M.nnx (M.nnx + 3)] rfl rfl hth info_machine (by simp [Value.oneCell']) ?_
  rw [← hW7]
  refine hK.out _ _ S7 (fun hHeld => ?_)
  clear hK K
  refine wpAnyH_done (by kernel_rfl) ?_ _
  have hfin := run_loadVar_mid (P := Try.prog) W7 (w.heap.size + 1) 0 49 [.int .i64 M.rules, .slice (some ⟨Wr.heap.size, 0, none⟩) M.ncl (M.ncl + 3), .slice (some ⟨w1.heap.size, 0, none⟩) M.nlb (M.nlb + 3), .slice (some ⟨w2.heap.size, 0, none⟩) M.nnx (M.nnx + 3)] _ R7 Try.underlying49 rfl info_machine
  clear hHeld hW7 hzr
  go_wp2_with fail
  refine bodyPost_ret (v := .agg #[.int .i64 M.rules, .slice (some ⟨Wr.heap.size, 0, none⟩) M.ncl (M.ncl + 3), .slice (some ⟨w1.heap.size, 0, none⟩) M.nlb (M.nlb + 3), .slice (some ⟨w2.heap.size, 0, none⟩) M.nnx (M.nnx + 3)]) (eResults_load1 Try.results50 rfl hfin) rfl ?_
  have hzr := Hzr.out
  have n1 := (hN1.below hD2).below hD3
  have n2 := hN2.below hD3
  refine ⟨Wr.heap.size, w1.heap.size, w2.heap.size, rfl, ⟨?_, ?_, ?_⟩, ⟨by omega, by omega, by omega⟩, ?_⟩
  · exact n1.block (G7.block _ (n1.lt (by omega)) (by simp; omega))
  · exact n2.block (G7.block _ (n2.lt (by omega)) (by simp; omega))
  · exact hN3.block (G7.block _ (hN3.lt (by omega)) (by simp; omega))
  · have h6 := HX.out.trans (hA3.mono HX.out.size)
    exact h6.grown G7 h6.size (fun k hk => by cases hk; omega)
end Go.Proofs.Ytoaaklhpmhjhkaa
