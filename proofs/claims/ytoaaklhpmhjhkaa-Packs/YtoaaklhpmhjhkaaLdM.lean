/-
  The law's sameTables, fullTables, filled.
-/
import Derived.Test.YtoaaklhpmhjhkaaLdI
namespace Go.Proofs.Ytoaaklhpmhjhkaa
open Go.RowKit

set_option maxRecDepth 100000 in
set_option maxHeartbeats 4000000 in
theorem sameTables_any (T : Tb) (A B : TbA) (w : World) (hs : TbSz T) (hA : TbIn T A w) (hB : TbIn T B w) :
    Calls Try.prog 15 #[.agg (A.cells T), .agg (B.cells T)] w fun e w' => e = .returned (.bool true) ∧ Below w.heap.size w w' := by
  have hB1 := bel_box w (.cells (A.cells T) 26)
  have hsz : (w.alloc (.cells (A.cells T) 26)).heap.size = w.heap.size + 1 := by simp
  have hB2 := hB1.alloc hB1.size (.cells (B.cells T) 26)
  have hAt1 := (TbAt.boxed T A w 26).below (bel_box _ (.cells (B.cells T) 26))
  have hAt2 := TbAt.boxed T B (w.alloc (.cells (A.cells T) 26)) 26
  rw [hsz] at hAt2
  have hR2 := hA.below hB2
  have hI2 := hB.below hB2
  unfold TbA.cells at *
  go_enter Try.func15, Try.ntmps15
  have p0 := hAt1.c0
  have q0 := hAt2.c0
  have p1 := hAt1.c1
  have q1 := hAt2.c1
  go_wp2_with fail
  clear p0 q0 p1 q1
  generalize (w.alloc (.cells #[.int .i64 T.rules, .slice A.a1 T.ncl A.c1, .slice A.a2 T.nlb A.c2, .slice A.a3 T.nbs A.c3, .slice A.a4 T.ndf A.c4, .slice A.a5 T.nck A.c5, .slice A.a6 T.nnx A.c6] 26)).alloc (.cells #[.int .i64 T.rules, .slice B.a1 T.ncl B.c1, .slice B.a2 T.nlb B.c2, .slice B.a3 T.nbs B.c3, .slice B.a4 T.ndf B.c4, .slice B.a5 T.nck B.c5, .slice B.a6 T.nnx B.c6] 26) = W at *
  have HAt : Hid (∀ w', Below W.heap.size W w' → (w'.cell? ⟨w.heap.size, 0, none⟩ = some (.int .i64 T.rules) ∧ w'.cell? ⟨w.heap.size, 1, none⟩ = some (.slice A.a1 T.ncl A.c1) ∧ w'.cell? ⟨w.heap.size, 2, none⟩ = some (.slice A.a2 T.nlb A.c2) ∧ w'.cell? ⟨w.heap.size, 3, none⟩ = some (.slice A.a3 T.nbs A.c3) ∧ w'.cell? ⟨w.heap.size, 4, none⟩ = some (.slice A.a4 T.ndf A.c4) ∧ w'.cell? ⟨w.heap.size, 5, none⟩ = some (.slice A.a5 T.nck A.c5) ∧ w'.cell? ⟨w.heap.size, 6, none⟩ = some (.slice A.a6 T.nnx A.c6)) ∧ (w'.cell? ⟨w.heap.size + 1, 0, none⟩ = some (.int .i64 T.rules) ∧ w'.cell? ⟨w.heap.size + 1, 1, none⟩ = some (.slice B.a1 T.ncl B.c1) ∧ w'.cell? ⟨w.heap.size + 1, 2, none⟩ = some (.slice B.a2 T.nlb B.c2) ∧ w'.cell? ⟨w.heap.size + 1, 3, none⟩ = some (.slice B.a3 T.nbs B.c3) ∧ w'.cell? ⟨w.heap.size + 1, 4, none⟩ = some (.slice B.a4 T.ndf B.c4) ∧ w'.cell? ⟨w.heap.size + 1, 5, none⟩ = some (.slice B.a5 T.nck B.c5) ∧ w'.cell? ⟨w.heap.size + 1, 6, none⟩ = some (.slice B.a6 T.nnx B.c6))) := fun w' h' => by
    have q := hAt1.below h'
    have r := hAt2.below h'
    exact ⟨⟨q.c0, q.c1, q.c2, q.c3, q.c4, q.c5, q.c6⟩, r.c0, r.c1, r.c2, r.c3, r.c4, r.c5, r.c6⟩
  have HC1 : Hid (∀ w', Below W.heap.size W w' → Calls Try.prog 45 #[.slice A.a1 T.ncl A.c1, .slice B.a1 T.ncl B.c1] w' fun e w'' => e = .returned (.bool true) ∧ Below w'.heap.size w' w'') := fun w' h' => sameInts_any A.a1 B.a1 T.ncl A.c1 B.c1 T.cl w' (by have := hs.s1; omega) (hR2.l1.below h') (hI2.l1.below h')
  have HC2 : Hid (∀ w', Below W.heap.size W w' → Calls Try.prog 45 #[.slice A.a2 T.nlb A.c2, .slice B.a2 T.nlb B.c2] w' fun e w'' => e = .returned (.bool true) ∧ Below w'.heap.size w' w'') := fun w' h' => sameInts_any A.a2 B.a2 T.nlb A.c2 B.c2 T.lb w' (by have := hs.s2; omega) (hR2.l2.below h') (hI2.l2.below h')
  have HC3 : Hid (∀ w', Below W.heap.size W w' → Calls Try.prog 45 #[.slice A.a3 T.nbs A.c3, .slice B.a3 T.nbs B.c3] w' fun e w'' => e = .returned (.bool true) ∧ Below w'.heap.size w' w'') := fun w' h' => sameInts_any A.a3 B.a3 T.nbs A.c3 B.c3 T.bs w' (by have := hs.s3; omega) (hR2.l3.below h') (hI2.l3.below h')
  have HC4 : Hid (∀ w', Below W.heap.size W w' → Calls Try.prog 45 #[.slice A.a4 T.ndf A.c4, .slice B.a4 T.ndf B.c4] w' fun e w'' => e = .returned (.bool true) ∧ Below w'.heap.size w' w'') := fun w' h' => sameInts_any A.a4 B.a4 T.ndf A.c4 B.c4 T.df w' (by have := hs.s4; omega) (hR2.l4.below h') (hI2.l4.below h')
  have HC5 : Hid (∀ w', Below W.heap.size W w' → Calls Try.prog 45 #[.slice A.a5 T.nck A.c5, .slice B.a5 T.nck B.c5] w' fun e w'' => e = .returned (.bool true) ∧ Below w'.heap.size w' w'') := fun w' h' => sameInts_any A.a5 B.a5 T.nck A.c5 B.c5 T.ck w' (by have := hs.s5; omega) (hR2.l5.below h') (hI2.l5.below h')
  have HC6 : Hid (∀ w', Below W.heap.size W w' → Calls Try.prog 45 #[.slice A.a6 T.nnx A.c6, .slice B.a6 T.nnx B.c6] w' fun e w'' => e = .returned (.bool true) ∧ Below w'.heap.size w' w'') := fun w' h' => sameInts_any A.a6 B.a6 T.nnx A.c6 B.c6 T.nx w' (by have := hs.s6; omega) (hR2.l6.below h') (hI2.l6.below h')
  have hA0 : Below W.heap.size W W := Below.refl _ _
  have HB2 : Hid (Below w.heap.size w W) := hB2
  clear hAt1 hAt2 hR2 hI2 hA hB hB1 hB2 hsz hs
  refine Calls.mono (HC1.out _ hA0) ?_
  rintro e w1 ⟨rfl, hD1⟩
  have hA1 := hA0.trans (hD1.mono hA0.size)
  obtain ⟨⟨p0, p1, p2, p3, p4, p5, p6⟩, q0, q1, q2, q3, q4, q5, q6⟩ := HAt.out w1 hA1
  go_wp2_with fail
  refine Calls.mono (HC2.out _ hA1) ?_
  rintro e w2 ⟨rfl, hD2⟩
  have hA2 := hA1.trans (hD2.mono hA1.size)
  clear p0 q0 p1 q1 p2 q2 p3 q3 p4 q4 p5 q5 p6 q6
  obtain ⟨⟨p0, p1, p2, p3, p4, p5, p6⟩, q0, q1, q2, q3, q4, q5, q6⟩ := HAt.out w2 hA2
  go_wp2_with fail
  refine Calls.mono (HC3.out _ hA2) ?_
  rintro e w3 ⟨rfl, hD3⟩
  have hA3 := hA2.trans (hD3.mono hA2.size)
  clear p0 q0 p1 q1 p2 q2 p3 q3 p4 q4 p5 q5 p6 q6
  obtain ⟨⟨p0, p1, p2, p3, p4, p5, p6⟩, q0, q1, q2, q3, q4, q5, q6⟩ := HAt.out w3 hA3
  go_wp2_with fail
  refine Calls.mono (HC4.out _ hA3) ?_
  rintro e w4 ⟨rfl, hD4⟩
  have hA4 := hA3.trans (hD4.mono hA3.size)
  clear p0 q0 p1 q1 p2 q2 p3 q3 p4 q4 p5 q5 p6 q6
  obtain ⟨⟨p0, p1, p2, p3, p4, p5, p6⟩, q0, q1, q2, q3, q4, q5, q6⟩ := HAt.out w4 hA4
  go_wp2_with fail
  refine Calls.mono (HC5.out _ hA4) ?_
  rintro e w5 ⟨rfl, hD5⟩
  have hA5 := hA4.trans (hD5.mono hA4.size)
  clear p0 q0 p1 q1 p2 q2 p3 q3 p4 q4 p5 q5 p6 q6
  obtain ⟨⟨p0, p1, p2, p3, p4, p5, p6⟩, q0, q1, q2, q3, q4, q5, q6⟩ := HAt.out w5 hA5
  go_wp2_with fail
  refine Calls.mono (HC6.out _ hA5) ?_
  rintro e w6 ⟨rfl, hD6⟩
  have hA6 := hA5.trans (hD6.mono hA5.size)
  clear p0 q0 p1 q1 p2 q2 p3 q3 p4 q4 p5 q5 p6 q6
  obtain ⟨⟨p0, p1, p2, p3, p4, p5, p6⟩, q0, q1, q2, q3, q4, q5, q6⟩ := HAt.out w6 hA6
  go_wp2_with fail
  go_ret
  exact ⟨ret_bool (by simp), HB2.out.trans (hA6.mono HB2.out.size)⟩

/-- How long a list is. -/
def nOf (T : Tb) (i : Nat) : Nat := match i with | 1 => T.ncl | 2 => T.nlb | 3 => T.nbs | 4 => T.ndf | 5 => T.nck | 6 => T.nnx | _ => 0
/-- What it holds. -/
def fOf (T : Tb) (i : Nat) : Nat → Int := match i with | 1 => T.cl | 2 => T.lb | 3 => T.bs | 4 => T.df | 5 => T.ck | 6 => T.nx | _ => fun _ => 0
/-- Six lists of their own, and what stands in them. -/
def Six (T : Tb) (G : Nat → Nat) (F : Nat → Nat → Int) (w : World) : Prop := ∀ i, NRow (G i) (F i) (nOf T i) w
/-- Where they lie. -/
def sixA (T : Tb) (G : Nat → Nat) : TbA := ⟨some ⟨G 1, 0, none⟩, T.ncl, some ⟨G 2, 0, none⟩, T.nlb, some ⟨G 3, 0, none⟩, T.nbs, some ⟨G 4, 0, none⟩, T.ndf, some ⟨G 5, 0, none⟩, T.nck, some ⟨G 6, 0, none⟩, T.nnx⟩
/-- No two lists that are not empty share their block. -/
def Apart (T : Tb) (G : Nat → Nat) : Prop := ∀ i j, i < j → 0 < nOf T i → 0 < nOf T j → G i < G j
theorem Six.below {T : Tb} {G : Nat → Nat} {F : Nat → Nat → Int} {w w' : World} (h : Six T G F w) (hW : Below w.heap.size w w') : Six T G F w' := fun i => (h i).below hW
theorem Six.in_ {T : Tb} {G : Nat → Nat} {w : World} (h : Six T G (fOf T) w) : TbIn T (sixA T G) w :=
  ⟨(h 1).il (Nat.le_refl _), (h 2).il (Nat.le_refl _), (h 3).il (Nat.le_refl _), (h 4).il (Nat.le_refl _), (h 5).il (Nat.le_refl _), (h 6).il (Nat.le_refl _)⟩
/-- One list is written over. -/
theorem Six.put {T : Tb} {G : Nat → Nat} {F : Nat → Nat → Int} {w w' : World} {f : Nat → Int} (h : Six T G F w) (ha : Apart T G) (i : Nat) (hg : w.grownBy w' (if nOf T i = 0 then none else some (G i))) (hn : NRow (G i) f (nOf T i) w') : Six T G (fun j => if j = i then f else F j) w' := fun j => by
  by_cases e : j = i
  · subst e; simp only [if_true]; exact hn
  · simp only [e, if_false]
    rcases Nat.eq_zero_or_pos (nOf T j) with h0 | h0
    · intro k hk; omega
    · refine (h j).blk (hg.block _ ((h j).lt h0) ?_)
      by_cases hi : nOf T i = 0
      · rw [if_pos hi]; simp
      · rw [if_neg hi]
        intro e2
        have e3 : G i = G j := by first | exact Option.some.inj e2 | exact (Option.some.inj e2).symm
        rcases Nat.lt_or_gt_of_ne e with hlt | hlt
        · have := ha j i hlt h0 (by omega); omega
        · have := ha i j hlt (by omega) h0; omega
theorem TbAt.blk {b : Nat} {T : Tb} {A : TbA} {w w' : World} (h : TbAt b T A w) (hb : w'.heap[b]? = w.heap[b]?) : TbAt b T A w' := by
  have e : ∀ k, w'.cell? ⟨b, k, none⟩ = w.cell? ⟨b, k, none⟩ := fun k => World.cell?_of_block (w := w) (a := ⟨b, k, none⟩) hb
  exact ⟨by rw [e]; exact h.c0, by rw [e]; exact h.c1, by rw [e]; exact h.c2, by rw [e]; exact h.c3, by rw [e]; exact h.c4, by rw [e]; exact h.c5, by rw [e]; exact h.c6⟩

set_option maxHeartbeats 1000000 in
/-- full, which leaves all as it is where the list is empty. -/
theorem full_any2 (g c : Nat) (f : Nat → Int) (v : Int) (w : World) (hc : c ≤ 17592186044416) (hR : NRow g f c w) :
    Calls Try.prog 46 #[.slice (some ⟨g, 0, none⟩) c c, .int .i64 v] w fun e w' => e = .returned (.tuple #[]) ∧ NRow g (fun _ => v) c w' ∧ w.grownBy w' (if c = 0 then none else some g) ∧ w'.heap.size = w.heap.size := by
  by_cases h0 : c = 0
  · subst h0
    go_enter Try.func46, Try.ntmps46
    go_wp2_with fail
    go_loopw [5] (fun i w' => i = .int .i64 0 ∧ w' = w) (fun _ _ => 0)
    case atStart => exact ⟨rfl, rfl⟩
    case round =>
      obtain ⟨rfl, rfl⟩ := hrel
      go_wp2_with fail
      go_end0
      exact ⟨rfl, fun k hk => by omega, grown_refl _ _, rfl⟩
  · rw [if_neg h0]
    exact full_any g c c f v w (Nat.le_refl _) hc hR

/-- What fullTables has at hand. -/
structure FS (T : Tb) (G : Nat → Nat) (B bx : Nat) (w : World) (F : Nat → Nat → Int) (W : World) : Prop where
  at_ : TbAt bx T (sixA T G) W
  six : Six T G F W
  bel : Below B w W
  low : ∀ i, 0 < nOf T i → G i < bx
  bxle : B ≤ bx
  sz : bx < W.heap.size
  grow : w.heap.size ≤ W.heap.size
  kept : ∀ q, q < w.heap.size → (∀ i, 0 < nOf T i → q ≠ G i) → W.heap[q]? = w.heap[q]?
theorem FS.put {T : Tb} {G : Nat → Nat} {B bx : Nat} {w : World} {F : Nat → Nat → Int} {W W' : World} {f : Nat → Int} (h : FS T G B bx w F W) (ha : Apart T G) (i : Nat) (hB : nOf T i = 0 ∨ B ≤ G i) (hg : W.grownBy W' (if nOf T i = 0 then none else some (G i))) (hn : NRow (G i) f (nOf T i) W') : FS T G B bx w (fun j => if j = i then f else F j) W' := by
  refine ⟨h.at_.blk (hg.block _ h.sz ?_), h.six.put ha i hg hn, h.bel.grown hg (Nat.le_trans h.bxle (Nat.le_of_lt h.sz)) ?_, h.low, h.bxle, Nat.lt_of_lt_of_le h.sz hg.size, Nat.le_trans h.grow hg.size, fun q hq hne => ?_⟩
  · by_cases hi : nOf T i = 0
    · rw [if_pos hi]; simp
    · rw [if_neg hi]
      intro e2
      have e3 : G i = bx := by first | exact Option.some.inj e2 | exact (Option.some.inj e2).symm
      have := h.low i (by omega)
      omega
  · intro k hk
    by_cases hi : nOf T i = 0
    · rw [if_pos hi] at hk; cases hk
    · rw [if_neg hi] at hk
      cases hk
      rcases hB with h | h
      · exact absurd h hi
      · exact h
  · rw [hg.block q (Nat.lt_of_lt_of_le hq h.grow) ?_, h.kept q hq hne]
    by_cases hi : nOf T i = 0
    · rw [if_pos hi]; simp
    · rw [if_neg hi]
      intro e2
      exact hne i (by omega) (by first | exact Option.some.inj e2 | exact (Option.some.inj e2).symm)

set_option maxRecDepth 100000 in
set_option maxHeartbeats 4000000 in
theorem fullTables_any (T : Tb) (G : Nat → Nat) (F : Nat → Nat → Int) (B : Nat) (w : World) (hs : TbSz T) (h : Six T G F w) (ha : Apart T G) (hB : ∀ i, nOf T i = 0 ∨ B ≤ G i) (hBw : B ≤ w.heap.size) :
    Calls Try.prog 16 #[.agg ((sixA T G).cells T)] w fun e w' => e = .returned (.tuple #[]) ∧ Six T G (fun i _ => 7777776 + (i : Int)) w' ∧ Below B w w' ∧ (∀ q, q < w.heap.size → (∀ i, 0 < nOf T i → q ≠ G i) → w'.heap[q]? = w.heap[q]?) := by
  obtain ⟨W, hW⟩ : ∃ W, W = w.alloc (.cells ((sixA T G).cells T) 26) := ⟨_, rfl⟩
  have S0 : FS T G B w.heap.size w F W := by
    rw [hW]
    exact ⟨TbAt.boxed T _ w _, h.below (bel_box _ _), (bel_box _ _).mono hBw, fun i hi => (h i).lt hi, hBw, by simp, by simp, fun q hq _ => (bel_box w _).block q hq⟩
  unfold sixA TbA.cells at hW
  unfold sixA TbA.cells
  simp only at hW
  simp only
  go_enter Try.func16, Try.ntmps16
  have p1 := S0.at_.c1
  rw [hW] at p1
  unfold sixA at p1
  simp only at p1
  go_wp2_with fail
  rw [← hW]
  clear hW h p1
  generalize hbx : w.heap.size = bx at *
  refine Calls.mono (full_any2 (G 1) T.ncl _ 7777777 _ (by have := hs.s1; omega) (S0.six 1)) ?_
  rintro e w1 ⟨rfl, n1, g1, z1⟩
  have S1 := S0.put ha 1 (hB 1) g1 n1
  clear n1 g1 z1 S0
  have p1 := S1.at_.c2
  unfold sixA at p1
  simp only at p1
  go_wp2_with fail
  clear p1
  refine Calls.mono (full_any2 (G 2) T.nlb _ 7777778 _ (by have := hs.s2; omega) (S1.six 2)) ?_
  rintro e w2 ⟨rfl, n2, g2, z2⟩
  have S2 := S1.put ha 2 (hB 2) g2 n2
  clear n2 g2 z2 S1
  have p1 := S2.at_.c3
  unfold sixA at p1
  simp only at p1
  go_wp2_with fail
  clear p1
  refine Calls.mono (full_any2 (G 3) T.nbs _ 7777779 _ (by have := hs.s3; omega) (S2.six 3)) ?_
  rintro e w3 ⟨rfl, n3, g3, z3⟩
  have S3 := S2.put ha 3 (hB 3) g3 n3
  clear n3 g3 z3 S2
  have p1 := S3.at_.c4
  unfold sixA at p1
  simp only at p1
  go_wp2_with fail
  clear p1
  refine Calls.mono (full_any2 (G 4) T.ndf _ 7777780 _ (by have := hs.s4; omega) (S3.six 4)) ?_
  rintro e w4 ⟨rfl, n4, g4, z4⟩
  have S4 := S3.put ha 4 (hB 4) g4 n4
  clear n4 g4 z4 S3
  have p1 := S4.at_.c5
  unfold sixA at p1
  simp only at p1
  go_wp2_with fail
  clear p1
  refine Calls.mono (full_any2 (G 5) T.nck _ 7777781 _ (by have := hs.s5; omega) (S4.six 5)) ?_
  rintro e w5 ⟨rfl, n5, g5, z5⟩
  have S5 := S4.put ha 5 (hB 5) g5 n5
  clear n5 g5 z5 S4
  have p1 := S5.at_.c6
  unfold sixA at p1
  simp only at p1
  go_wp2_with fail
  clear p1
  refine Calls.mono (full_any2 (G 6) T.nnx _ 7777782 _ (by have := hs.s6; omega) (S5.six 6)) ?_
  rintro e w6 ⟨rfl, n6, g6, z6⟩
  have S6 := S5.put ha 6 (hB 6) g6 n6
  clear n6 g6 z6 S5
  go_wp2_with fail
  go_end0
  refine ⟨rfl, fun i => ?_, S6.bel, S6.kept⟩
  have h6 := S6.six i
  rcases i with _ | _ | _ | _ | _ | _ | _ | i
  · intro k hk; cases hk
  all_goals first | exact h6 | (intro k hk; cases hk)

set_option maxRecDepth 100000 in
set_option maxHeartbeats 4000000 in
theorem filled_any (T : Tb) (G : Nat → Nat) (w : World) (hs : TbSz T) (h : Six T G (fun i _ => 7777776 + (i : Int)) w) :
    Calls Try.prog 17 #[.agg ((sixA T G).cells T)] w fun e w' => e = .returned (.bool true) ∧ Below w.heap.size w w' := by
  obtain ⟨W, hW⟩ : ∃ W, W = w.alloc (.cells ((sixA T G).cells T) 26) := ⟨_, rfl⟩
  have hAt : TbAt w.heap.size T (sixA T G) W := by rw [hW]; exact TbAt.boxed T _ w _
  have h6 : Six T G (fun i _ => 7777776 + (i : Int)) W := by rw [hW]; exact h.below (bel_box _ _)
  have hBW : Below w.heap.size w W := by rw [hW]; exact bel_box _ _
  obtain ⟨p0, p1, p2, p3, p4, p5, p6⟩ := hAt
  unfold sixA TbA.cells at hW
  unfold sixA TbA.cells
  unfold sixA at p1 p2 p3 p4 p5 p6
  simp only at hW p1 p2 p3 p4 p5 p6
  simp only
  have HW : Hid (W = w.alloc _) := hW
  rw [hW] at p1
  go_enter Try.func17, Try.ntmps17
  go_wp2_with fail
  rw [← HW.out] at *
  clear hW HW h
  generalize hbx : w.heap.size = bx at *
  refine Calls.mono (reads_any (G 1) T.ncl T.ncl 7777777 _ (Nat.le_refl _) (by have := hs.s1; omega) (h6 1)) ?_
  rintro e w1 ⟨rfl, rfl⟩
  go_wp2_with fail
  refine Calls.mono (reads_any (G 2) T.nlb T.nlb 7777778 _ (Nat.le_refl _) (by have := hs.s2; omega) (h6 2)) ?_
  rintro e w2 ⟨rfl, rfl⟩
  go_wp2_with fail
  refine Calls.mono (reads_any (G 3) T.nbs T.nbs 7777779 _ (Nat.le_refl _) (by have := hs.s3; omega) (h6 3)) ?_
  rintro e w3 ⟨rfl, rfl⟩
  go_wp2_with fail
  refine Calls.mono (reads_any (G 4) T.ndf T.ndf 7777780 _ (Nat.le_refl _) (by have := hs.s4; omega) (h6 4)) ?_
  rintro e w4 ⟨rfl, rfl⟩
  go_wp2_with fail
  refine Calls.mono (reads_any (G 5) T.nck T.nck 7777781 _ (Nat.le_refl _) (by have := hs.s5; omega) (h6 5)) ?_
  rintro e w5 ⟨rfl, rfl⟩
  go_wp2_with fail
  refine Calls.mono (reads_any (G 6) T.nnx T.nnx 7777782 _ (Nat.le_refl _) (by have := hs.s6; omega) (h6 6)) ?_
  rintro e w6 ⟨rfl, rfl⟩
  go_wp2_with fail
  go_ret
  exact ⟨rfl, by rw [hbx]; exact hBW⟩
end Go.Proofs.Ytoaaklhpmhjhkaa
