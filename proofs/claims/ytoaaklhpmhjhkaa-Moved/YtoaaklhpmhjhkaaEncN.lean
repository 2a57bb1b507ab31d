/-
  The law: stillTables, encoded, Encodes.
-/
import Derived.Test.YtoaaklhpmhjhkaaEncM
namespace Go.Proofs.Ytoaaklhpmhjhkaa
open Go.RowKit

set_option maxRecDepth 100000 in
set_option maxHeartbeats 4000000 in
theorem stillTables_any (T : Tb) (A : TbA) (G : HAd) (w : World) (hs : TbSz T) (hR : HRows G T w) (hI : TbIn T A w) :
    Calls Try.prog 41 #[.agg ((G.tb T).cells T), .agg (A.cells T)] w fun e w' => e = .returned (.bool true) ∧ Below w.heap.size w w' := by
  have hB1 := bel_box w (.cells ((G.tb T).cells T) 26)
  have hsz : (w.alloc (.cells ((G.tb T).cells T) 26)).heap.size = w.heap.size + 1 := by simp
  have hB2 := hB1.alloc hB1.size (.cells (A.cells T) 26)
  have hAt1 := (TbAt.boxed T (G.tb T) w 26).below (bel_box _ (.cells (A.cells T) 26))
  have hAt2 := TbAt.boxed T A (w.alloc (.cells ((G.tb T).cells T) 26)) 26
  rw [hsz] at hAt2
  have hR2 := hR.below hB2
  have hI2 := hI.below hB2
  unfold HAd.tb TbA.cells at *
  simp only at *
  go_enter Try.func41, Try.ntmps41
  go_wp2_with fail
  generalize (w.alloc (.cells #[.int .i64 T.rules, .slice (some ⟨G.g1, 0, none⟩) T.ncl (T.ncl + 3), .slice (some ⟨G.g2, 0, none⟩) T.nlb (T.nlb + 3), .slice (some ⟨G.g3, 0, none⟩) T.nbs (T.nbs + 3), .slice (some ⟨G.g4, 0, none⟩) T.ndf (T.ndf + 3), .slice (some ⟨G.g5, 0, none⟩) T.nck (T.nck + 3), .slice (some ⟨G.g6, 0, none⟩) T.nnx (T.nnx + 3)] 26)).alloc (.cells #[.int .i64 T.rules, .slice A.a1 T.ncl A.c1, .slice A.a2 T.nlb A.c2, .slice A.a3 T.nbs A.c3, .slice A.a4 T.ndf A.c4, .slice A.a5 T.nck A.c5, .slice A.a6 T.nnx A.c6] 26) = W at *
  have HAt : Hid (∀ w', Below W.heap.size W w' → (w'.cell? ⟨w.heap.size, 0, none⟩ = some (.int .i64 T.rules) ∧ w'.cell? ⟨w.heap.size, 1, none⟩ = some (.slice (some ⟨G.g1, 0, none⟩) T.ncl (T.ncl + 3)) ∧ w'.cell? ⟨w.heap.size, 2, none⟩ = some (.slice (some ⟨G.g2, 0, none⟩) T.nlb (T.nlb + 3)) ∧ w'.cell? ⟨w.heap.size, 3, none⟩ = some (.slice (some ⟨G.g3, 0, none⟩) T.nbs (T.nbs + 3)) ∧ w'.cell? ⟨w.heap.size, 4, none⟩ = some (.slice (some ⟨G.g4, 0, none⟩) T.ndf (T.ndf + 3)) ∧ w'.cell? ⟨w.heap.size, 5, none⟩ = some (.slice (some ⟨G.g5, 0, none⟩) T.nck (T.nck + 3)) ∧ w'.cell? ⟨w.heap.size, 6, none⟩ = some (.slice (some ⟨G.g6, 0, none⟩) T.nnx (T.nnx + 3))) ∧ (w'.cell? ⟨w.heap.size + 1, 0, none⟩ = some (.int .i64 T.rules) ∧ w'.cell? ⟨w.heap.size + 1, 1, none⟩ = some (.slice A.a1 T.ncl A.c1) ∧ w'.cell? ⟨w.heap.size + 1, 2, none⟩ = some (.slice A.a2 T.nlb A.c2) ∧ w'.cell? ⟨w.heap.size + 1, 3, none⟩ = some (.slice A.a3 T.nbs A.c3) ∧ w'.cell? ⟨w.heap.size + 1, 4, none⟩ = some (.slice A.a4 T.ndf A.c4) ∧ w'.cell? ⟨w.heap.size + 1, 5, none⟩ = some (.slice A.a5 T.nck A.c5) ∧ w'.cell? ⟨w.heap.size + 1, 6, none⟩ = some (.slice A.a6 T.nnx A.c6))) := fun w' h' => by
    have q := hAt1.below h'
    have r := hAt2.below h'
    exact ⟨⟨q.c0, q.c1, q.c2, q.c3, q.c4, q.c5, q.c6⟩, r.c0, r.c1, r.c2, r.c3, r.c4, r.c5, r.c6⟩
  have HC1 : Hid (∀ w', Below W.heap.size W w' → Calls Try.prog 71 #[.slice (some ⟨G.g1, 0, none⟩) T.ncl (T.ncl + 3), .slice A.a1 T.ncl A.c1] w' fun e w'' => e = .returned (.bool true) ∧ Below w'.heap.size w' w'') := fun w' h' => stillI_any G.g1 T.ncl A.c1 A.a1 T.cl w' hs.s1 (hR2.r1.below h') (hI2.l1.below h')
  have HC2 : Hid (∀ w', Below W.heap.size W w' → Calls Try.prog 71 #[.slice (some ⟨G.g2, 0, none⟩) T.nlb (T.nlb + 3), .slice A.a2 T.nlb A.c2] w' fun e w'' => e = .returned (.bool true) ∧ Below w'.heap.size w' w'') := fun w' h' => stillI_any G.g2 T.nlb A.c2 A.a2 T.lb w' hs.s2 (hR2.r2.below h') (hI2.l2.below h')
  have HC3 : Hid (∀ w', Below W.heap.size W w' → Calls Try.prog 71 #[.slice (some ⟨G.g3, 0, none⟩) T.nbs (T.nbs + 3), .slice A.a3 T.nbs A.c3] w' fun e w'' => e = .returned (.bool true) ∧ Below w'.heap.size w' w'') := fun w' h' => stillI_any G.g3 T.nbs A.c3 A.a3 T.bs w' hs.s3 (hR2.r3.below h') (hI2.l3.below h')
  have HC4 : Hid (∀ w', Below W.heap.size W w' → Calls Try.prog 71 #[.slice (some ⟨G.g4, 0, none⟩) T.ndf (T.ndf + 3), .slice A.a4 T.ndf A.c4] w' fun e w'' => e = .returned (.bool true) ∧ Below w'.heap.size w' w'') := fun w' h' => stillI_any G.g4 T.ndf A.c4 A.a4 T.df w' hs.s4 (hR2.r4.below h') (hI2.l4.below h')
  have HC5 : Hid (∀ w', Below W.heap.size W w' → Calls Try.prog 71 #[.slice (some ⟨G.g5, 0, none⟩) T.nck (T.nck + 3), .slice A.a5 T.nck A.c5] w' fun e w'' => e = .returned (.bool true) ∧ Below w'.heap.size w' w'') := fun w' h' => stillI_any G.g5 T.nck A.c5 A.a5 T.ck w' hs.s5 (hR2.r5.below h') (hI2.l5.below h')
  have HC6 : Hid (∀ w', Below W.heap.size W w' → Calls Try.prog 71 #[.slice (some ⟨G.g6, 0, none⟩) T.nnx (T.nnx + 3), .slice A.a6 T.nnx A.c6] w' fun e w'' => e = .returned (.bool true) ∧ Below w'.heap.size w' w'') := fun w' h' => stillI_any G.g6 T.nnx A.c6 A.a6 T.nx w' hs.s6 (hR2.r6.below h') (hI2.l6.below h')
  have hA0 : Below W.heap.size W W := Below.refl _ _
  have HB2 : Hid (Below w.heap.size w W) := hB2
  clear hAt1 hAt2 hR2 hI2 hR hI hB1 hB2 hsz hs
  refine Calls.mono (HC1.out _ hA0) ?_
  rintro e w1 ⟨rfl, hD1⟩
  have hA1 := hA0.trans (hD1.mono hA0.size)
  obtain ⟨⟨p0, p1, p2, p3, p4, p5, p6⟩, q0, q1, q2, q3, q4, q5, q6⟩ := HAt.out w1 hA1
  go_wp2_with fail
  refine Calls.mono (HC2.out _ hA1) ?_
  rintro e w2 ⟨rfl, hD2⟩
  have hA2 := hA1.trans (hD2.mono hA1.size)
  clear p0 q0 p1 q1 p2 q2 p3 q3 p4 q4 p5 q5 p6 q6
  obtain ⟨⟨p0, p1, p2, p3, p4, p5, p6⟩, q0, q1, q2, q3, q4, q5, q6⟩ := HAt.out w2 hA2
  go_wp2_with fail
  refine Calls.mono (HC3.out _ hA2) ?_
  rintro e w3 ⟨rfl, hD3⟩
  have hA3 := hA2.trans (hD3.mono hA2.size)
  clear p0 q0 p1 q1 p2 q2 p3 q3 p4 q4 p5 q5 p6 q6
  obtain ⟨⟨p0, p1, p2, p3, p4, p5, p6⟩, q0, q1, q2, q3, q4, q5, q6⟩ := HAt.out w3 hA3
  go_wp2_with fail
  refine Calls.mono (HC4.out _ hA3) ?_
  rintro e w4 ⟨rfl, hD4⟩
  have hA4 := hA3.trans (hD4.mono hA3.size)
  clear p0 q0 p1 q1 p2 q2 p3 q3 p4 q4 p5 q5 p6 q6
  obtain ⟨⟨p0, p1, p2, p3, p4, p5, p6⟩, q0, q1, q2, q3, q4, q5, q6⟩ := HAt.out w4 hA4
  go_wp2_with fail
  refine Calls.mono (HC5.out _ hA4) ?_
  rintro e w5 ⟨rfl, hD5⟩
  have hA5 := hA4.trans (hD5.mono hA4.size)
  clear p0 q0 p1 q1 p2 q2 p3 q3 p4 q4 p5 q5 p6 q6
  obtain ⟨⟨p0, p1, p2, p3, p4, p5, p6⟩, q0, q1, q2, q3, q4, q5, q6⟩ := HAt.out w5 hA5
  go_wp2_with fail
  refine Calls.mono (HC6.out _ hA5) ?_
  rintro e w6 ⟨rfl, hD6⟩
  have hA6 := hA5.trans (hD6.mono hA5.size)
  clear p0 q0 p1 q1 p2 q2 p3 q3 p4 q4 p5 q5 p6 q6
  obtain ⟨⟨p0, p1, p2, p3, p4, p5, p6⟩, q0, q1, q2, q3, q4, q5, q6⟩ := HAt.out w6 hA6
  go_wp2_with fail
  go_ret
  exact ⟨ret_bool (by simp), HB2.out.trans (hA6.mono HB2.out.size)⟩

/-- Whoever encodes answers the same. -/
theorem EncPost.ex (T : Tb) : ∃ (s : ByteArray) (er : Int), ∀ (w : World) (e : Ending) (w' : World), EncPost T w e w' → e = .returned (.tuple #[.string s, .int .i64 er]) ∧ Below w.heap.size w w' := by
  by_cases hS : Snd T
  · refine ⟨⟨(fileL T).toArray⟩, 0, fun w e w' h => ⟨?_, h.1⟩⟩
    rcases h.2 with ⟨_, h⟩ | ⟨h, _⟩
    · exact h
    · exact absurd hS h
  · refine ⟨⟨#[]⟩, 11, fun w e w' h => ⟨?_, h.1⟩⟩
    rcases h.2 with ⟨h, _⟩ | ⟨_, h⟩
    · exact absurd h hS
    · exact h
/-- What encoded leaves. -/
def EPost (w : World) (e : Ending) (w' : World) : Prop := (∃ s, e = .returned (.tuple #[.string s, .bool true])) ∧ Below w.heap.size w w'
theorem HRows.tbIn {G : HAd} {T : Tb} {w : World} (h : HRows G T w) : TbIn T (G.tb T) w := by
  have e : ∀ (g : Nat) (f : Nat → Int) (n : Nat), NRow g (handedI f n) (n + 3) w → IL (some ⟨g, 0, none⟩) f n w := fun g f n hr i hi => ⟨g, 0, rfl, by have := (hr i (by omega)).1; rw [Nat.zero_add]; simpa [handedI, hi] using this⟩
  exact ⟨e _ _ _ h.r1, e _ _ _ h.r2, e _ _ _ h.r3, e _ _ _ h.r4, e _ _ _ h.r5, e _ _ _ h.r6⟩
theorem HRows.block {G : HAd} {T : Tb} {w w' : World} (h : HRows G T w) (hb : ∀ k, k < w.heap.size → w'.heap[k]? = w.heap[k]?) : HRows G T w' :=
  ⟨h.r1.block (hb _ (h.r1.lt (by omega))), h.r2.block (hb _ (h.r2.lt (by omega))), h.r3.block (hb _ (h.r3.lt (by omega))), h.r4.block (hb _ (h.r4.lt (by omega))), h.r5.block (hb _ (h.r5.lt (by omega))), h.r6.block (hb _ (h.r6.lt (by omega)))⟩
set_option maxRecDepth 100000 in
set_option maxHeartbeats 4000000 in
theorem encoded_any (T : Tb) (A : TbA) (w : World) (hs : TbSz T) (hI : TbIn T A w) :
    Calls Try.prog 12 #[.agg (A.cells T)] w (EPost w) := by
  have hB0 := bel_box w (.cells (A.cells T) 26)
  have hAt0 := TbAt.boxed T A w 26
  have hI0 := hI.below hB0
  have hz := zero_tables
  have HH : Hid (Calls Try.prog 38 #[.agg (A.cells T)] (w.alloc (.cells (A.cells T) 26)) (HPost T (w.alloc (.cells (A.cells T) 26)))) := handedTables_any T A _ hs hI0
  obtain ⟨sf, er, hV⟩ := EncPost.ex T
  have HV : Hid (∀ (w : World) (e : Ending) (w' : World), EncPost T w e w' → e = .returned (.tuple #[.string sf, .int .i64 er]) ∧ Below w.heap.size w w') := hV
  clear hV
  unfold TbA.cells at hB0 hAt0 hI0 HH ⊢
  go_enter Try.func12, Try.ntmps12
  go_wp2_with fail
  refine HH.out.mono ?_
  rintro e w1 ⟨G, rfl, hR, hB1⟩
  clear HH
  have hW1 := hB0.trans (hB1.mono hB0.size)
  have hAt1 := hAt0.below hB1
  have hI1 := hI0.below hB1
  have hAtG := TbAt.boxed T (G.tb T) w1 26
  have hB2 := bel_box w1 (.cells ((G.tb T).cells T) 26)
  obtain ⟨W2, hW2⟩ : ∃ W2, W2 = w1.alloc (.cells ((G.tb T).cells T) 26) := ⟨_, rfl⟩
  rw [← hW2] at hAtG hB2
  have hAt2 := hAt1.below hB2
  have hI2 := hI1.below hB2
  have hR2 := hR.below hB2
  have hB2w := hW1.trans (hB2.mono hW1.size)
  have hbx : w.heap.size ≠ w1.heap.size := by have := hAt1.lt; omega
  have HE1 : Hid (Calls Try.prog 39 #[.agg ((G.tb T).cells T)] W2 (EncPost T W2)) := munchEncode_any T (G.tb T) W2 hs hR2.tbIn
  have HE2 : Hid (∀ w', Below W2.heap.size W2 w' → Calls Try.prog 40 #[.agg (A.cells T)] w' (EncPost T w')) := fun w' h' => refEncode_any T A w' hs (hI2.below h')
  have HE3 : Hid (∀ w', Below W2.heap.size W2 w' → Calls Try.prog 41 #[.agg ((G.tb T).cells T), .agg (A.cells T)] w' fun e w'' => e = .returned (.bool true) ∧ Below w'.heap.size w' w'') := fun w' h' => stillTables_any T A G w' hs (hR2.below h') (hI2.below h')
  have HRG : Hid (∀ w', Below W2.heap.size W2 w' → (w'.cell? ⟨w1.heap.size, 0, none⟩ = some (.int .i64 T.rules) ∧ w'.cell? ⟨w1.heap.size, 1, none⟩ = some (.slice (some ⟨G.g1, 0, none⟩) T.ncl (T.ncl + 3)) ∧ w'.cell? ⟨w1.heap.size, 2, none⟩ = some (.slice (some ⟨G.g2, 0, none⟩) T.nlb (T.nlb + 3)) ∧ w'.cell? ⟨w1.heap.size, 3, none⟩ = some (.slice (some ⟨G.g3, 0, none⟩) T.nbs (T.nbs + 3)) ∧ w'.cell? ⟨w1.heap.size, 4, none⟩ = some (.slice (some ⟨G.g4, 0, none⟩) T.ndf (T.ndf + 3)) ∧ w'.cell? ⟨w1.heap.size, 5, none⟩ = some (.slice (some ⟨G.g5, 0, none⟩) T.nck (T.nck + 3)) ∧ w'.cell? ⟨w1.heap.size, 6, none⟩ = some (.slice (some ⟨G.g6, 0, none⟩) T.nnx (T.nnx + 3))) ∧ (w'.cell? ⟨w.heap.size, 0, none⟩ = some (.int .i64 T.rules) ∧ w'.cell? ⟨w.heap.size, 1, none⟩ = some (.slice A.a1 T.ncl A.c1) ∧ w'.cell? ⟨w.heap.size, 2, none⟩ = some (.slice A.a2 T.nlb A.c2) ∧ w'.cell? ⟨w.heap.size, 3, none⟩ = some (.slice A.a3 T.nbs A.c3) ∧ w'.cell? ⟨w.heap.size, 4, none⟩ = some (.slice A.a4 T.ndf A.c4) ∧ w'.cell? ⟨w.heap.size, 5, none⟩ = some (.slice A.a5 T.nck A.c5) ∧ w'.cell? ⟨w.heap.size, 6, none⟩ = some (.slice A.a6 T.nnx A.c6))) := fun w' h' => by
    have q := hAtG.below h'
    have r := hAt2.below h'
    exact ⟨⟨q.c0, q.c1, q.c2, q.c3, q.c4, q.c5, q.c6⟩, r.c0, r.c1, r.c2, r.c3, r.c4, r.c5, r.c6⟩
  unfold HAd.tb TbA.cells at hW2 HE1 HE2 HE3
  unfold HAd.tb TbA.cells
  simp only at *
  clear hAt0 hI0 hB0 hAt1 hI1 hAtG hAt2 hI2 hR hR2 hI hB1 hB2
  go_wp2_with fail
  rw [← hW2]
  refine HE1.out.mono ?_
  intro e w3 h
  obtain ⟨rfl, hB3⟩ := HV.out _ _ _ h
  obtain ⟨⟨p0, p1, p2, p3, p4, p5, p6⟩, q0, q1, q2, q3, q4, q5, q6⟩ := HRG.out w3 hB3
  clear h hW2 hz
  go_wp2_with fail
  refine (HE2.out w3 hB3).mono ?_
  intro e w4 h
  obtain ⟨rfl, hB4⟩ := HV.out _ _ _ h
  have hB34 := hB3.trans (hB4.mono hB3.size)
  clear h p0 p1 p2 p3 p4 p5 p6 q0 q1 q2 q3 q4 q5 q6
  obtain ⟨⟨p0, p1, p2, p3, p4, p5, p6⟩, q0, q1, q2, q3, q4, q5, q6⟩ := HRG.out w4 hB34
  go_wp2_with fail
  refine (HE3.out w4 hB34).mono ?_
  rintro e w5 ⟨rfl, hB5⟩
  go_wp2_with fail
  go_ret2
  exact ⟨⟨sf, by simp⟩, hB2w.trans ((hB34.trans (hB5.mono hB34.size)).mono hB2w.size)⟩

set_option maxHeartbeats 1000000 in
theorem Encodes_any (T : Tb) (A : TbA) (w : World) (hs : TbSz T) (hI : TbIn T A w) :
    Calls Try.prog 4 #[.agg (A.cells T)] w fun e w' => e = .returned (.bool true) ∧ Below w.heap.size w w' := by
  have hB0 := bel_box w (.cells (A.cells T) 26)
  have HH : Hid (Calls Try.prog 12 #[.agg (A.cells T)] (w.alloc (.cells (A.cells T) 26)) (EPost (w.alloc (.cells (A.cells T) 26)))) := encoded_any T A _ hs (hI.below hB0)
  clear hI
  unfold TbA.cells at *
  go_enter Try.func4, Try.ntmps4
  go_wp2_with fail
  refine HH.out.mono ?_
  rintro e w1 ⟨⟨sx, rfl⟩, hB1⟩
  go_wp2_with fail
  go_ret
  exact ⟨rfl, hB0.trans (hB1.mono hB0.size)⟩
end Go.Proofs.Ytoaaklhpmhjhkaa
