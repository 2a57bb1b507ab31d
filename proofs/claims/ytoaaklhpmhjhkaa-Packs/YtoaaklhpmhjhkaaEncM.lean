/-
  Contract of munch.Encode; six calls in whatever order.
-/
import Derived.Test.YtoaaklhpmhjhkaaEncK
import Derived.Deep.MidRow
namespace Go.Proofs.Ytoaaklhpmhjhkaa
open Go.RowKit

set_option maxHeartbeats 1000000 in
theorem munchEncode_any (T : Tb) (A : TbA) (w : World) (hs : TbSz T) (hI : TbIn T A w) : Calls Try.prog 39 #[.agg (A.cells T)] w (EncPost T w) := by
  have hB0 := bel_box w (.cells (A.cells T) 26)
  have HE : Hid (Calls Try.prog 68 #[.pointer (some ⟨w.heap.size, 0, none⟩)] (w.alloc (.cells (A.cells T) 26)) (EncPost T (w.alloc (.cells (A.cells T) 26)))) := codecEncode_any w.heap.size T A _ hs (TbAt.boxed T A w 26) (hI.below hB0)
  unfold TbA.cells at *
  go_enter Try.func39, Try.ntmps39
  go_wp2_with fail
  refine HE.out.mono ?_
  rintro e w1 ⟨hB1, h⟩
  have hW1 := hB0.trans (hB1.mono hB0.size)
  rcases h with ⟨hS, rfl⟩ | ⟨hS, rfl⟩
  · go_wp2_with fail
    go_ret2
    exact ⟨hW1, Or.inl ⟨hS, rfl⟩⟩
  · go_wp2_with fail
    go_ret2
    exact ⟨hW1, Or.inr ⟨hS, rfl⟩⟩

theorem info_tables : (Try.prog.info? 26).map (·.size) = some 7 := by kernel_rfl
def zeroT : Array Value := #[.int .i64 0, .slice none 0 0, .slice none 0 0, .slice none 0 0, .slice none 0 0, .slice none 0 0, .slice none 0 0]
theorem zero_tables (w : World) : (zeroValue 26).run Try.prog w = .ok (.agg #[.int .i64 0, .slice none 0 0, .slice none 0 0, .slice none 0 0, .slice none 0 0, .slice none 0 0, .slice none 0 0]) w := by
  have h : (Try.prog.info? 26).bind (·.zero) = some (.agg #[.int .i64 0, .slice none 0 0, .slice none 0 0, .slice none 0 0, .slice none 0 0, .slice none 0 0, .slice none 0 0]) := by kernel_rfl
  cases hq : Try.prog.info? 26 with
  | none => rw [hq] at h; cases h
  | some i => rw [hq] at h; simp at h; simp [zeroValue, typeInfo, hq, h]

/-- Where lists lie that were handed in. -/
structure HAd where
  g1 : Nat
  g2 : Nat
  g3 : Nat
  g4 : Nat
  g5 : Nat
  g6 : Nat
def HAd.tb (G : HAd) (T : Tb) : TbA := ⟨some ⟨G.g1, 0, none⟩, T.ncl + 3, some ⟨G.g2, 0, none⟩, T.nlb + 3, some ⟨G.g3, 0, none⟩, T.nbs + 3, some ⟨G.g4, 0, none⟩, T.ndf + 3, some ⟨G.g5, 0, none⟩, T.nck + 3, some ⟨G.g6, 0, none⟩, T.nnx + 3⟩
structure HRows (G : HAd) (T : Tb) (w : World) : Prop where
  r1 : NRow G.g1 (handedI T.cl T.ncl) (T.ncl + 3) w
  r2 : NRow G.g2 (handedI T.lb T.nlb) (T.nlb + 3) w
  r3 : NRow G.g3 (handedI T.bs T.nbs) (T.nbs + 3) w
  r4 : NRow G.g4 (handedI T.df T.ndf) (T.ndf + 3) w
  r5 : NRow G.g5 (handedI T.ck T.nck) (T.nck + 3) w
  r6 : NRow G.g6 (handedI T.nx T.nnx) (T.nnx + 3) w
theorem HRows.below {G : HAd} {T : Tb} {w w' : World} (h : HRows G T w) (hW : Below w.heap.size w w') : HRows G T w' :=
  ⟨h.r1.below hW, h.r2.below hW, h.r3.below hW, h.r4.below hW, h.r5.below hW, h.r6.below hW⟩
theorem NRow.block {g : Nat} {f : Nat → Int} {n : Nat} {w w' : World} (h : NRow g f n w) (hb : w'.heap[g]? = w.heap[g]?) : NRow g f n w' := fun k hk => by
  rw [World.cell?_of_block (w := w) (a := ⟨g, k, none⟩) hb, World.frozen?_of_block (w := w) (a := ⟨g, k, none⟩) hb]; exact h k hk
/-- What handedTables leaves. -/
def HPost (T : Tb) (w : World) (e : Ending) (w' : World) : Prop := ∃ G : HAd, e = .returned (.agg ((G.tb T).cells T)) ∧ HRows G T w' ∧ Below w.heap.size w w'
theorem eResults_cell1 {fn : Func} {p : Tmp} {ty : TypeId} (h : fn.results = #[.cell p ty]) (tmps : Array Value) (P : Program) (w : World) :
    (results fn tmps).run P w = ((asAddr (tmps.getD p undef)).run P w).andThen fun a w₁ => (loadVar ty a).run P w₁ := by
  simp only [results, h]
  simp [Sem.run_bind, Result.andThen]
theorem eResults_load1 {fn : Func} {p : Tmp} {ty : TypeId} {P : Program} {w : World} {ad : Addr} {v : Value} {tmps : Array Value} (h : fn.results = #[.cell p ty]) (ht : tmps.getD p undef = .pointer (some ad)) (hl : (loadVar ty ad).run P w = .ok v w) :
    (results fn tmps).run P w = .ok v w := by
  rw [eResults_cell1 h, ht]; simp [asAddr, hl]

set_option maxRecDepth 100000 in
set_option maxHeartbeats 4000000 in
theorem handedTables_any (T : Tb) (A : TbA) (w : World) (hs : TbSz T) (hI : TbIn T A w) :
    Calls Try.prog 38 #[.agg (A.cells T)] w (HPost T w) := by
  have hz := zero_tables
  have hAt0 := TbAt.boxed T A w 26
  have hB0 := bel_box w (.cells (A.cells T) 26)
  have hsz0 : (w.alloc (.cells (A.cells T) 26)).heap.size = w.heap.size + 1 := by simp
  have hBr := hB0.alloc hB0.size (.cells zeroT 26)
  have hAtr := hAt0.below (bel_box _ (.cells zeroT 26))
  have hIr := hI.below hBr
  have hZ : ∀ k, k < 7 → ((w.alloc (.cells (A.cells T) 26)).alloc (.cells zeroT 26)).cell? ⟨w.heap.size + 1, k, none⟩ = zeroT[k]? ∧ ((w.alloc (.cells (A.cells T) 26)).alloc (.cells zeroT 26)).frozen? ⟨w.heap.size + 1, k, none⟩ = false := fun k hk => by
    rw [← hsz0, World.cell?_alloc_new]
    refine ⟨rfl, ?_⟩
    go_simp
  have hZlt : w.heap.size + 1 < ((w.alloc (.cells (A.cells T) 26)).alloc (.cells zeroT 26)).heap.size := by simp
  unfold TbA.cells zeroT at *
  go_enter Try.func38, Try.ntmps38
  go_wp2_with fail
  generalize (w.alloc (.cells #[.int .i64 T.rules, .slice A.a1 T.ncl A.c1, .slice A.a2 T.nlb A.c2, .slice A.a3 T.nbs A.c3, .slice A.a4 T.ndf A.c4, .slice A.a5 T.nck A.c5, .slice A.a6 T.nnx A.c6] 26)).alloc (.cells #[.int .i64 0, .slice none 0 0, .slice none 0 0, .slice none 0 0, .slice none 0 0, .slice none 0 0, .slice none 0 0] 26) = Wr at *
  have HBr : Hid (Below w.heap.size w Wr) := hBr
  have HC1 : Hid (∀ w', Below Wr.heap.size Wr w' → Calls Try.prog 67 #[.slice A.a1 T.ncl A.c1] w' fun e w'' => e = .returned (.slice (some ⟨w'.heap.size, 0, none⟩) T.ncl (T.ncl + 3)) ∧ NRow w'.heap.size (handedI T.cl T.ncl) (T.ncl + 3) w'' ∧ Below w'.heap.size w' w'') := fun w' h' => handedI_any A.a1 T.ncl A.c1 T.cl w' hs.s1 (hIr.l1.below h')
  have HC2 : Hid (∀ w', Below Wr.heap.size Wr w' → Calls Try.prog 67 #[.slice A.a2 T.nlb A.c2] w' fun e w'' => e = .returned (.slice (some ⟨w'.heap.size, 0, none⟩) T.nlb (T.nlb + 3)) ∧ NRow w'.heap.size (handedI T.lb T.nlb) (T.nlb + 3) w'' ∧ Below w'.heap.size w' w'') := fun w' h' => handedI_any A.a2 T.nlb A.c2 T.lb w' hs.s2 (hIr.l2.below h')
  have HC3 : Hid (∀ w', Below Wr.heap.size Wr w' → Calls Try.prog 67 #[.slice A.a3 T.nbs A.c3] w' fun e w'' => e = .returned (.slice (some ⟨w'.heap.size, 0, none⟩) T.nbs (T.nbs + 3)) ∧ NRow w'.heap.size (handedI T.bs T.nbs) (T.nbs + 3) w'' ∧ Below w'.heap.size w' w'') := fun w' h' => handedI_any A.a3 T.nbs A.c3 T.bs w' hs.s3 (hIr.l3.below h')
  have HC4 : Hid (∀ w', Below Wr.heap.size Wr w' → Calls Try.prog 67 #[.slice A.a4 T.ndf A.c4] w' fun e w'' => e = .returned (.slice (some ⟨w'.heap.size, 0, none⟩) T.ndf (T.ndf + 3)) ∧ NRow w'.heap.size (handedI T.df T.ndf) (T.ndf + 3) w'' ∧ Below w'.heap.size w' w'') := fun w' h' => handedI_any A.a4 T.ndf A.c4 T.df w' hs.s4 (hIr.l4.below h')
  have HC5 : Hid (∀ w', Below Wr.heap.size Wr w' → Calls Try.prog 67 #[.slice A.a5 T.nck A.c5] w' fun e w'' => e = .returned (.slice (some ⟨w'.heap.size, 0, none⟩) T.nck (T.nck + 3)) ∧ NRow w'.heap.size (handedI T.ck T.nck) (T.nck + 3) w'' ∧ Below w'.heap.size w' w'') := fun w' h' => handedI_any A.a5 T.nck A.c5 T.ck w' hs.s5 (hIr.l5.below h')
  have HC6 : Hid (∀ w', Below Wr.heap.size Wr w' → Calls Try.prog 67 #[.slice A.a6 T.nnx A.c6] w' fun e w'' => e = .returned (.slice (some ⟨w'.heap.size, 0, none⟩) T.nnx (T.nnx + 3)) ∧ NRow w'.heap.size (handedI T.nx T.nnx) (T.nnx + 3) w'' ∧ Below w'.heap.size w' w'') := fun w' h' => handedI_any A.a6 T.nnx A.c6 T.nx w' hs.s6 (hIr.l6.below h')
  have HSc : Hid (∀ w', Below Wr.heap.size Wr w' → w'.cell? ⟨w.heap.size, 0, none⟩ = some (.int .i64 T.rules) ∧ w'.cell? ⟨w.heap.size, 1, none⟩ = some (.slice A.a1 T.ncl A.c1) ∧ w'.cell? ⟨w.heap.size, 2, none⟩ = some (.slice A.a2 T.nlb A.c2) ∧ w'.cell? ⟨w.heap.size, 3, none⟩ = some (.slice A.a3 T.nbs A.c3) ∧ w'.cell? ⟨w.heap.size, 4, none⟩ = some (.slice A.a4 T.ndf A.c4) ∧ w'.cell? ⟨w.heap.size, 5, none⟩ = some (.slice A.a5 T.nck A.c5) ∧ w'.cell? ⟨w.heap.size, 6, none⟩ = some (.slice A.a6 T.nnx A.c6)) := fun w' h' => by
    obtain ⟨q0, q1, q2, q3, q4, q5, q6⟩ := hAtr.below h'
    exact ⟨q0, q1, q2, q3, q4, q5, q6⟩
  have HST : Hid (∀ w' (v1 v2 v3 v4 v5 v6 : Value), Below Wr.heap.size Wr w' → ∃ W7, w'.there (w.heap.size + 1) 0 7 ∧ W7 = w'.setCells (w.heap.size + 1) 0 [.int .i64 T.rules, v1, v2, v3, v4, v5, v6] ∧ (W7.cell? ⟨w.heap.size, 0, none⟩ = some (.int .i64 T.rules) ∧ W7.cell? ⟨w.heap.size, 1, none⟩ = some (.slice A.a1 T.ncl A.c1) ∧ W7.cell? ⟨w.heap.size, 2, none⟩ = some (.slice A.a2 T.nlb A.c2) ∧ W7.cell? ⟨w.heap.size, 3, none⟩ = some (.slice A.a3 T.nbs A.c3) ∧ W7.cell? ⟨w.heap.size, 4, none⟩ = some (.slice A.a4 T.ndf A.c4) ∧ W7.cell? ⟨w.heap.size, 5, none⟩ = some (.slice A.a5 T.nck A.c5) ∧ W7.cell? ⟨w.heap.size, 6, none⟩ = some (.slice A.a6 T.nnx A.c6)) ∧ W7.rangeAt (w.heap.size + 1) 0 [.int .i64 T.rules, v1, v2, v3, v4, v5, v6] ∧ w'.grownBy W7 (some (w.heap.size + 1))) := fun w' v1 v2 v3 v4 v5 v6 h' => by
    have hthere : w'.there (w.heap.size + 1) 0 7 := fun j hj => by
      have e1 : w'.cell? ⟨w.heap.size + 1, 0 + j, none⟩ = Wr.cell? ⟨w.heap.size + 1, 0 + j, none⟩ := h'.cell (p := ⟨w.heap.size + 1, 0 + j, none⟩) hZlt
      have e2 : w'.frozen? ⟨w.heap.size + 1, 0 + j, none⟩ = Wr.frozen? ⟨w.heap.size + 1, 0 + j, none⟩ := h'.frozen (p := ⟨w.heap.size + 1, 0 + j, none⟩) hZlt
      rw [e1, e2, Nat.zero_add, (hZ j hj).1]
      exact ⟨by rcases j with _ | _ | _ | _ | _ | _ | _ | j <;> first | rfl | omega, (hZ j hj).2⟩
    have hgr := setCells_grown (w.heap.size + 1) [.int .i64 T.rules, v1, v2, v3, v4, v5, v6] 0 w'
    have hS' := HSc.out w' h'
    have hc : ∀ k, (w'.setCells (w.heap.size + 1) 0 [.int .i64 T.rules, v1, v2, v3, v4, v5, v6]).cell? ⟨w.heap.size, k, none⟩ = w'.cell? ⟨w.heap.size, k, none⟩ := fun k => World.cell?_of_block (w := w') (a := ⟨w.heap.size, k, none⟩) (hgr.block w.heap.size (Nat.lt_of_lt_of_le (by omega) h'.size) (by simp))
    refine ⟨w'.setCells (w.heap.size + 1) 0 [.int .i64 T.rules, v1, v2, v3, v4, v5, v6], hthere, rfl, ?_, World.rangeAt_setCells_same _ _ _ _ hthere, hgr⟩
    rw [hc, hc, hc, hc, hc, hc, hc]
    exact hS'
  have hA0 : Below Wr.heap.size Wr Wr.drew := (Below.refl _ _).drew
  obtain ⟨d0, d1, d2, d3, d4, d5, d6⟩ := hAtr
  clear hZ hIr hI hBr hB0 hAt0 hz hsz0
  refine wp_region_held_drew (S := fun w' => w'.cell? ⟨w.heap.size, 0, none⟩ = some (.int .i64 T.rules) ∧ w'.cell? ⟨w.heap.size, 1, none⟩ = some (.slice A.a1 T.ncl A.c1) ∧ w'.cell? ⟨w.heap.size, 2, none⟩ = some (.slice A.a2 T.nlb A.c2) ∧ w'.cell? ⟨w.heap.size, 3, none⟩ = some (.slice A.a3 T.nbs A.c3) ∧ w'.cell? ⟨w.heap.size, 4, none⟩ = some (.slice A.a4 T.ndf A.c4) ∧ w'.cell? ⟨w.heap.size, 5, none⟩ = some (.slice A.a5 T.nck A.c5) ∧ w'.cell? ⟨w.heap.size, 6, none⟩ = some (.slice A.a6 T.nnx A.c6)) (by kernel_rfl) (HSc.out _ hA0) (fun hHeld => ?_)
  refine wpAnyH_take (i := 0) (oi := ?o0) (v := ?v0) ?hi0 ?hs0 ?hf0 ?hr0 ?hQ0 (Or.inl ⟨?hw0, ?hy0⟩) ?hS0 ?rest0
  case hi0 => simp only [List.getElem?_toArray, List.getElem?_cons_zero]; rfl
  case hs0 => kernel_rfl
  case hf0 => kernel_rfl
  case hr0 => kernel_rfl
  case hQ0 => exact fun _ _ _ h => h
  case hS0 => assumption
  case hw0 => rfl
  case hy0 => intro w' hSw; (try dsimp only at hSw); go_simp; first | done | with_reducible rfl
  (try simp only [Act.put, List.setIfInBounds_toArray, List.set_cons_zero, List.set_cons_succ])
  refine wpAnyH_take (i := 1) (oi := ?o1) (v := ?v1) ?hi1 ?hs1 ?hf1 ?hr1 ?hQ1 (Or.inl ⟨?hw1, ?hy1⟩) ?hS1 ?rest1
  case hi1 => simp only [List.getElem?_toArray, List.getElem?_cons_succ, List.getElem?_cons_zero]; rfl
  case hs1 => kernel_rfl
  case hf1 => kernel_rfl
  case hr1 => kernel_rfl
  case hQ1 => exact fun _ _ _ h => h
  case hS1 => assumption
  case hw1 => rfl
  case hy1 => intro w' hSw; (try dsimp only at hSw); go_simp; first | done | with_reducible rfl
  (try simp only [Act.put, List.setIfInBounds_toArray, List.set_cons_zero, List.set_cons_succ])
  refine wpAnyH_take (i := 2) (oi := ?o2) (v := ?v2) ?hi2 ?hs2 ?hf2 ?hr2 ?hQ2 (Or.inl ⟨?hw2, ?hy2⟩) ?hS2 ?rest2
  case hi2 => simp only [List.getElem?_toArray, List.getElem?_cons_succ, List.getElem?_cons_zero]; rfl
  case hs2 => kernel_rfl
  case hf2 => kernel_rfl
  case hr2 => kernel_rfl
  case hQ2 => exact fun _ _ _ h => h
  case hS2 => assumption
  case hw2 => rfl
  case hy2 => intro w' hSw; (try dsimp only at hSw); go_simp; first | done | with_reducible rfl
  (try simp only [Act.put, List.setIfInBounds_toArray, List.set_cons_zero, List.set_cons_succ])
  refine wpAnyH_take (i := 3) (oi := ?o3) (v := ?v3) ?hi3 ?hs3 ?hf3 ?hr3 ?hQ3 (Or.inl ⟨?hw3, ?hy3⟩) ?hS3 ?rest3
  case hi3 => simp only [List.getElem?_toArray, List.getElem?_cons_succ, List.getElem?_cons_zero]; rfl
  case hs3 => kernel_rfl
  case hf3 => kernel_rfl
  case hr3 => kernel_rfl
  case hQ3 => exact fun _ _ _ h => h
  case hS3 => assumption
  case hw3 => rfl
  case hy3 => intro w' hSw; (try dsimp only at hSw); go_simp; first | done | with_reducible rfl
  (try simp only [Act.put, List.setIfInBounds_toArray, List.set_cons_zero, List.set_cons_succ])
  refine wpAnyH_take (i := 5) (oi := ?o5) (v := ?v5) ?hi5 ?hs5 ?hf5 ?hr5 ?hQ5 (Or.inl ⟨?hw5, ?hy5⟩) ?hS5 ?rest5
  case hi5 => simp only [List.getElem?_toArray, List.getElem?_cons_succ, List.getElem?_cons_zero]; rfl
  case hs5 => kernel_rfl
  case hf5 => kernel_rfl
  case hr5 => kernel_rfl
  case hQ5 => exact fun _ _ _ h => h
  case hS5 => assumption
  case hw5 => rfl
  case hy5 => intro w' hSw; (try dsimp only at hSw); go_simp; first | done | with_reducible rfl
  (try simp only [Act.put, List.setIfInBounds_toArray, List.set_cons_zero, List.set_cons_succ])
  refine wpAnyH_take (i := 6) (oi := ?o6) (v := ?v6) ?hi6 ?hs6 ?hf6 ?hr6 ?hQ6 (Or.inl ⟨?hw6, ?hy6⟩) ?hS6 ?rest6
  case hi6 => simp only [List.getElem?_toArray, List.getElem?_cons_succ, List.getElem?_cons_zero]; rfl
  case hs6 => kernel_rfl
  case hf6 => kernel_rfl
  case hr6 => kernel_rfl
  case hQ6 => exact fun _ _ _ h => h
  case hS6 => assumption
  case hw6 => rfl
  case hy6 => intro w' hSw; (try dsimp only at hSw); go_simp; first | done | with_reducible rfl
  (try simp only [Act.put, List.setIfInBounds_toArray, List.set_cons_zero, List.set_cons_succ])
  refine wpAnyH_take (i := 8) (oi := ?o8) (v := ?v8) ?hi8 ?hs8 ?hf8 ?hr8 ?hQ8 (Or.inl ⟨?hw8, ?hy8⟩) ?hS8 ?rest8
  case hi8 => simp only [List.getElem?_toArray, List.getElem?_cons_succ, List.getElem?_cons_zero]; rfl
  case hs8 => kernel_rfl
  case hf8 => kernel_rfl
  case hr8 => kernel_rfl
  case hQ8 => exact fun _ _ _ h => h
  case hS8 => assumption
  case hw8 => rfl
  case hy8 => intro w' hSw; (try dsimp only at hSw); go_simp; first | done | with_reducible rfl
  (try simp only [Act.put, List.setIfInBounds_toArray, List.set_cons_zero, List.set_cons_succ])
  refine wpAnyH_take (i := 9) (oi := ?o9) (v := ?v9) ?hi9 ?hs9 ?hf9 ?hr9 ?hQ9 (Or.inl ⟨?hw9, ?hy9⟩) ?hS9 ?rest9
  case hi9 => simp only [List.getElem?_toArray, List.getElem?_cons_succ, List.getElem?_cons_zero]; rfl
  case hs9 => kernel_rfl
  case hf9 => kernel_rfl
  case hr9 => kernel_rfl
  case hQ9 => exact fun _ _ _ h => h
  case hS9 => assumption
  case hw9 => rfl
  case hy9 => intro w' hSw; (try dsimp only at hSw); go_simp; first | done | with_reducible rfl
  (try simp only [Act.put, List.setIfInBounds_toArray, List.set_cons_zero, List.set_cons_succ])
  refine wpAnyH_take (i := 11) (oi := ?o11) (v := ?v11) ?hi11 ?hs11 ?hf11 ?hr11 ?hQ11 (Or.inl ⟨?hw11, ?hy11⟩) ?hS11 ?rest11
  case hi11 => simp only [List.getElem?_toArray, List.getElem?_cons_succ, List.getElem?_cons_zero]; rfl
  case hs11 => kernel_rfl
  case hf11 => kernel_rfl
  case hr11 => kernel_rfl
  case hQ11 => exact fun _ _ _ h => h
  case hS11 => assumption
  case hw11 => rfl
  case hy11 => intro w' hSw; (try dsimp only at hSw); go_simp; first | done | with_reducible rfl
  (try simp only [Act.put, List.setIfInBounds_toArray, List.set_cons_zero, List.set_cons_succ])
  refine wpAnyH_take (i := 12) (oi := ?o12) (v := ?v12) ?hi12 ?hs12 ?hf12 ?hr12 ?hQ12 (Or.inl ⟨?hw12, ?hy12⟩) ?hS12 ?rest12
  case hi12 => simp only [List.getElem?_toArray, List.getElem?_cons_succ, List.getElem?_cons_zero]; rfl
  case hs12 => kernel_rfl
  case hf12 => kernel_rfl
  case hr12 => kernel_rfl
  case hQ12 => exact fun _ _ _ h => h
  case hS12 => assumption
  case hw12 => rfl
  case hy12 => intro w' hSw; (try dsimp only at hSw); go_simp; first | done | with_reducible rfl
  (try simp only [Act.put, List.setIfInBounds_toArray, List.set_cons_zero, List.set_cons_succ])
  refine wpAnyH_take (i := 14) (oi := ?o14) (v := ?v14) ?hi14 ?hs14 ?hf14 ?hr14 ?hQ14 (Or.inl ⟨?hw14, ?hy14⟩) ?hS14 ?rest14
  case hi14 => simp only [List.getElem?_toArray, List.getElem?_cons_succ, List.getElem?_cons_zero]; rfl
  case hs14 => kernel_rfl
  case hf14 => kernel_rfl
  case hr14 => kernel_rfl
  case hQ14 => exact fun _ _ _ h => h
  case hS14 => assumption
  case hw14 => rfl
  case hy14 => intro w' hSw; (try dsimp only at hSw); go_simp; first | done | with_reducible rfl
  (try simp only [Act.put, List.setIfInBounds_toArray, List.set_cons_zero, List.set_cons_succ])
  refine wpAnyH_take (i := 15) (oi := ?o15) (v := ?v15) ?hi15 ?hs15 ?hf15 ?hr15 ?hQ15 (Or.inl ⟨?hw15, ?hy15⟩) ?hS15 ?rest15
  case hi15 => simp only [List.getElem?_toArray, List.getElem?_cons_succ, List.getElem?_cons_zero]; rfl
  case hs15 => kernel_rfl
  case hf15 => kernel_rfl
  case hr15 => kernel_rfl
  case hQ15 => exact fun _ _ _ h => h
  case hS15 => assumption
  case hw15 => rfl
  case hy15 => intro w' hSw; (try dsimp only at hSw); go_simp; first | done | with_reducible rfl
  (try simp only [Act.put, List.setIfInBounds_toArray, List.set_cons_zero, List.set_cons_succ])
  refine wpAnyH_take (i := 17) (oi := ?o17) (v := ?v17) ?hi17 ?hs17 ?hf17 ?hr17 ?hQ17 (Or.inl ⟨?hw17, ?hy17⟩) ?hS17 ?rest17
  case hi17 => simp only [List.getElem?_toArray, List.getElem?_cons_succ, List.getElem?_cons_zero]; rfl
  case hs17 => kernel_rfl
  case hf17 => kernel_rfl
  case hr17 => kernel_rfl
  case hQ17 => exact fun _ _ _ h => h
  case hS17 => assumption
  case hw17 => rfl
  case hy17 => intro w' hSw; (try dsimp only at hSw); go_simp; first | done | with_reducible rfl
  (try simp only [Act.put, List.setIfInBounds_toArray, List.set_cons_zero, List.set_cons_succ])
  refine wpAnyH_take (i := 18) (oi := ?o18) (v := ?v18) ?hi18 ?hs18 ?hf18 ?hr18 ?hQ18 (Or.inl ⟨?hw18, ?hy18⟩) ?hS18 ?rest18
  case hi18 => simp only [List.getElem?_toArray, List.getElem?_cons_succ, List.getElem?_cons_zero]; rfl
  case hs18 => kernel_rfl
  case hf18 => kernel_rfl
  case hr18 => kernel_rfl
  case hQ18 => exact fun _ _ _ h => h
  case hS18 => assumption
  case hw18 => rfl
  case hy18 => intro w' hSw; (try dsimp only at hSw); go_simp; first | done | with_reducible rfl
  (try simp only [Act.put, List.setIfInBounds_toArray, List.set_cons_zero, List.set_cons_succ])
  refine wpAnyH_ready (rs := [4]) (by kernel_rfl) (by simp) ?_
  refine AllReadyH.cons (o := ?o4) ?hi4 (fun K hK => ?_) AllReadyH.nil
  case hi4 => simp only [List.getElem?_toArray, List.getElem?_cons_succ, List.getElem?_cons_zero]; rfl
  go_simp
  refine Calls.mono (HC1.out _ hA0) ?_
  rintro e w1 ⟨rfl, hN1, hD1⟩
  have hA1 := hA0.trans (hD1.mono hA0.size)
  go_wp2_with fail
  refine hK.out _ _ (HSc.out _ hA1) (fun hHeld => ?_)
  clear hK K
  (try simp only [Act.put, List.setIfInBounds_toArray, List.set_cons_zero, List.set_cons_succ])
  refine wpAnyH_ready (rs := [7]) (by kernel_rfl) (by simp) ?_
  refine AllReadyH.cons (o := ?o7) ?hi7 (fun K hK => ?_) AllReadyH.nil
  case hi7 => simp only [List.getElem?_toArray, List.getElem?_cons_succ, List.getElem?_cons_zero]; rfl
  go_simp
  refine Calls.mono (HC2.out _ hA1) ?_
  rintro e w2 ⟨rfl, hN2, hD2⟩
  have hA2 := hA1.trans (hD2.mono hA1.size)
  go_wp2_with fail
  refine hK.out _ _ (HSc.out _ hA2) (fun hHeld => ?_)
  clear hK K
  (try simp only [Act.put, List.setIfInBounds_toArray, List.set_cons_zero, List.set_cons_succ])
  refine wpAnyH_ready (rs := [10]) (by kernel_rfl) (by simp) ?_
  refine AllReadyH.cons (o := ?o10) ?hi10 (fun K hK => ?_) AllReadyH.nil
  case hi10 => simp only [List.getElem?_toArray, List.getElem?_cons_succ, List.getElem?_cons_zero]; rfl
  go_simp
  refine Calls.mono (HC3.out _ hA2) ?_
  rintro e w3 ⟨rfl, hN3, hD3⟩
  have hA3 := hA2.trans (hD3.mono hA2.size)
  go_wp2_with fail
  refine hK.out _ _ (HSc.out _ hA3) (fun hHeld => ?_)
  clear hK K
  (try simp only [Act.put, List.setIfInBounds_toArray, List.set_cons_zero, List.set_cons_succ])
  refine wpAnyH_ready (rs := [13]) (by kernel_rfl) (by simp) ?_
  refine AllReadyH.cons (o := ?o13) ?hi13 (fun K hK => ?_) AllReadyH.nil
  case hi13 => simp only [List.getElem?_toArray, List.getElem?_cons_succ, List.getElem?_cons_zero]; rfl
  go_simp
  refine Calls.mono (HC4.out _ hA3) ?_
  rintro e w4 ⟨rfl, hN4, hD4⟩
  have hA4 := hA3.trans (hD4.mono hA3.size)
  go_wp2_with fail
  refine hK.out _ _ (HSc.out _ hA4) (fun hHeld => ?_)
  clear hK K
  (try simp only [Act.put, List.setIfInBounds_toArray, List.set_cons_zero, List.set_cons_succ])
  refine wpAnyH_ready (rs := [16]) (by kernel_rfl) (by simp) ?_
  refine AllReadyH.cons (o := ?o16) ?hi16 (fun K hK => ?_) AllReadyH.nil
  case hi16 => simp only [List.getElem?_toArray, List.getElem?_cons_succ, List.getElem?_cons_zero]; rfl
  go_simp
  refine Calls.mono (HC5.out _ hA4) ?_
  rintro e w5 ⟨rfl, hN5, hD5⟩
  have hA5 := hA4.trans (hD5.mono hA4.size)
  go_wp2_with fail
  refine hK.out _ _ (HSc.out _ hA5) (fun hHeld => ?_)
  clear hK K
  (try simp only [Act.put, List.setIfInBounds_toArray, List.set_cons_zero, List.set_cons_succ])
  refine wpAnyH_ready (rs := [19]) (by kernel_rfl) (by simp) ?_
  refine AllReadyH.cons (o := ?o19) ?hi19 (fun K hK => ?_) AllReadyH.nil
  case hi19 => simp only [List.getElem?_toArray, List.getElem?_cons_succ, List.getElem?_cons_zero]; rfl
  go_simp
  refine Calls.mono (HC6.out _ hA5) ?_
  rintro e w6 ⟨rfl, hN6, hD6⟩
  have hA6 := hA5.trans (hD6.mono hA5.size)
  go_wp2_with fail
  refine hK.out _ _ (HSc.out _ hA6) (fun hHeld => ?_)
  clear hK K
  (try simp only [Act.put, List.setIfInBounds_toArray, List.set_cons_zero, List.set_cons_succ])
  refine wpAnyH_take (i := 20) (oi := ?o20) (v := ?v20) ?hi20 ?hs20 ?hf20 ?hr20 ?hQ20 (Or.inl ⟨?hw20, ?hy20⟩) ?hS20 ?rest20
  case hi20 => simp only [List.getElem?_toArray, List.getElem?_cons_succ, List.getElem?_cons_zero]; rfl
  case hs20 => kernel_rfl
  case hf20 => kernel_rfl
  case hr20 => kernel_rfl
  case hQ20 => exact fun _ _ _ h => h
  case hS20 => assumption
  case hw20 => rfl
  case hy20 => intro w' hSw; (try dsimp only at hSw); go_simp; first | done | with_reducible rfl
  (try simp only [Act.put, List.setIfInBounds_toArray, List.set_cons_zero, List.set_cons_succ])
  refine wpAnyH_ready (rs := [21]) (by kernel_rfl) (by simp) ?_
  refine AllReadyH.cons (o := ?o21) ?hi21 (fun K hK => ?_) AllReadyH.nil
  case hi21 => simp only [List.getElem?_toArray, List.getElem?_cons_succ, List.getElem?_cons_zero]; rfl
  rw [if_pos (by rfl)]
  obtain ⟨W7, hth, hW7, S7, R7, G7⟩ := HST.out w6 (.slice (some ⟨Wr.heap.size, 0, none⟩) T.ncl (T.ncl + 3)) (.slice (some ⟨w1.heap.size, 0, none⟩) T.nlb (T.nlb + 3)) (.slice (some ⟨w2.heap.size, 0, none⟩) T.nbs (T.nbs + 3)) (.slice (some ⟨w3.heap.size, 0, none⟩) T.ndf (T.ndf + 3)) (.slice (some ⟨w4.heap.size, 0, none⟩) T.nck (T.nck + 3)) (.slice (some ⟨w5.heap.size, 0, none⟩) T.nnx (T.nnx + 3)) hA6
  refine wp_store_mid 26 _ _ rfl (w.heap.size + 1) 0 #[.int .i64 T.rules, .slice (some ⟨Wr.heap.size, 0, none⟩) T.ncl (T.ncl + 3), .slice (some ⟨w1.heap.size, 0, none⟩) T.nlb (T.nlb + 3), .slice (some ⟨w2.heap.size, 0, none⟩) T.nbs (T.nbs + 3), .slice (some ⟨w3.heap.size, 0, none⟩) T.ndf (T.ndf + 3), .slice (some ⟨w4.heap.size, 0, none⟩) T.nck (T.nck + 3), .slice (some ⟨w5.heap.size, 0, none⟩) T.nnx (T.nnx + 3)] rfl rfl hth info_tables (by simp [Value.oneCell']) ?_
  rw [← hW7]
  refine hK.out _ _ S7 (fun hHeld => ?_)
  clear hK K
  refine wpAnyH_done (by kernel_rfl) ?_ _
  have hfin := run_loadVar_mid (P := Try.prog) W7 (w.heap.size + 1) 0 26 [.int .i64 T.rules, .slice (some ⟨Wr.heap.size, 0, none⟩) T.ncl (T.ncl + 3), .slice (some ⟨w1.heap.size, 0, none⟩) T.nlb (T.nlb + 3), .slice (some ⟨w2.heap.size, 0, none⟩) T.nbs (T.nbs + 3), .slice (some ⟨w3.heap.size, 0, none⟩) T.ndf (T.ndf + 3), .slice (some ⟨w4.heap.size, 0, none⟩) T.nck (T.nck + 3), .slice (some ⟨w5.heap.size, 0, none⟩) T.nnx (T.nnx + 3)] _ R7 Try.underlying26 rfl info_tables
  go_wp2_with fail
  refine bodyPost_ret (v := .agg #[.int .i64 T.rules, .slice (some ⟨Wr.heap.size, 0, none⟩) T.ncl (T.ncl + 3), .slice (some ⟨w1.heap.size, 0, none⟩) T.nlb (T.nlb + 3), .slice (some ⟨w2.heap.size, 0, none⟩) T.nbs (T.nbs + 3), .slice (some ⟨w3.heap.size, 0, none⟩) T.ndf (T.ndf + 3), .slice (some ⟨w4.heap.size, 0, none⟩) T.nck (T.nck + 3), .slice (some ⟨w5.heap.size, 0, none⟩) T.nnx (T.nnx + 3)]) (eResults_load1 Try.results38 rfl hfin) rfl ?_
  have n1 := ((((hN1.below hD2).below hD3).below hD4).below hD5).below hD6
  have n2 := (((hN2.below hD3).below hD4).below hD5).below hD6
  have n3 := ((hN3.below hD4).below hD5).below hD6
  have n4 := (hN4.below hD5).below hD6
  have n5 := hN5.below hD6
  have n6 := hN6
  have e0 := hA0.size
  have e1 := hA1.size
  have e2 := hA2.size
  have e3 := hA3.size
  have e4 := hA4.size
  have e5 := hA5.size
  refine ⟨⟨Wr.heap.size, w1.heap.size, w2.heap.size, w3.heap.size, w4.heap.size, w5.heap.size⟩, rfl, ⟨?_, ?_, ?_, ?_, ?_, ?_⟩, ?_⟩
  · exact n1.block (G7.block _ (n1.lt (by omega)) (by simp; omega))
  · exact n2.block (G7.block _ (n2.lt (by omega)) (by simp; omega))
  · exact n3.block (G7.block _ (n3.lt (by omega)) (by simp; omega))
  · exact n4.block (G7.block _ (n4.lt (by omega)) (by simp; omega))
  · exact n5.block (G7.block _ (n5.lt (by omega)) (by simp; omega))
  · exact n6.block (G7.block _ (n6.lt (by omega)) (by simp; omega))
  · have h6 := HBr.out.trans (hA6.mono HBr.out.size)
    exact h6.grown G7 h6.size (fun k hk => by cases hk; omega)
end Go.Proofs.Ytoaaklhpmhjhkaa
