/-
  Contract of the program's Copy of tables.
-/
import Derived.Test.YtoaaklhpmhjhkaaLdG
namespace Go.Proofs.Ytoaaklhpmhjhkaa
open Go.RowKit

/-- What Copy has at hand: its result at b, the tables behind it. -/
structure CT (b : Nat) (v0 v1 v2 v3 v4 v5 v6 : Value) (w : World) : Prop where
  z : w.there b 0 7
  t0 : w.cell? ⟨b + 1, 0, none⟩ = some v0
  t1 : w.cell? ⟨b + 1, 1, none⟩ = some v1
  t2 : w.cell? ⟨b + 1, 2, none⟩ = some v2
  t3 : w.cell? ⟨b + 1, 3, none⟩ = some v3
  t4 : w.cell? ⟨b + 1, 4, none⟩ = some v4
  t5 : w.cell? ⟨b + 1, 5, none⟩ = some v5
  t6 : w.cell? ⟨b + 1, 6, none⟩ = some v6
  f0 : w.frozen? ⟨b + 1, 0, none⟩ = false
  f1 : w.frozen? ⟨b + 1, 1, none⟩ = false
  f2 : w.frozen? ⟨b + 1, 2, none⟩ = false
  f3 : w.frozen? ⟨b + 1, 3, none⟩ = false
  f4 : w.frozen? ⟨b + 1, 4, none⟩ = false
  f5 : w.frozen? ⟨b + 1, 5, none⟩ = false
  f6 : w.frozen? ⟨b + 1, 6, none⟩ = false
theorem CT.below {b : Nat} {v0 v1 v2 v3 v4 v5 v6 : Value} {w w' : World} (h : CT b v0 v1 v2 v3 v4 v5 v6 w) (hW : Below w.heap.size w w') : CT b v0 v1 v2 v3 v4 v5 v6 w' := by
  have l : b + 1 < w.heap.size := World.block_lt_of_cell? w _ h.t0
  have e : ∀ k, w'.cell? ⟨b + 1, k, none⟩ = w.cell? ⟨b + 1, k, none⟩ := fun k => World.cell?_of_block (w := w) (a := ⟨b + 1, k, none⟩) (hW.block (b + 1) l)
  have d : ∀ k, w'.frozen? ⟨b + 1, k, none⟩ = w.frozen? ⟨b + 1, k, none⟩ := fun k => World.frozen?_of_block (w := w) (a := ⟨b + 1, k, none⟩) (hW.block (b + 1) l)
  exact ⟨there_below h.z (by omega) hW, by rw [e]; exact h.t0, by rw [e]; exact h.t1, by rw [e]; exact h.t2, by rw [e]; exact h.t3, by rw [e]; exact h.t4, by rw [e]; exact h.t5, by rw [e]; exact h.t6, by rw [d]; exact h.f0, by rw [d]; exact h.f1, by rw [d]; exact h.f2, by rw [d]; exact h.f3, by rw [d]; exact h.f4, by rw [d]; exact h.f5, by rw [d]; exact h.f6⟩
theorem CT.set0 {b : Nat} {v0 v1 v2 v3 v4 v5 v6 : Value} {w : World} (h : CT b v0 v1 v2 v3 v4 v5 v6 w) (u : Value) : CT b u v1 v2 v3 v4 v5 v6 (w.setCell ⟨b + 1, 0, none⟩ u) := by
  obtain ⟨z, t0, t1, t2, t3, t4, t5, t6, f0, f1, f2, f3, f4, f5, f6⟩ := h
  refine ⟨fun j hj => ?_, ?_, ?_, ?_, ?_, ?_, ?_, ?_, ?_, ?_, ?_, ?_, ?_, ?_, ?_⟩
  case refine_1 => rw [World.cell?_setCell_other _ _ _ _ (by intro he; cases he), World.frozen?_setCell]; exact z j hj
  all_goals go_simp
theorem CT.set1 {b : Nat} {v0 v1 v2 v3 v4 v5 v6 : Value} {w : World} (h : CT b v0 v1 v2 v3 v4 v5 v6 w) (u : Value) : CT b v0 u v2 v3 v4 v5 v6 (w.setCell ⟨b + 1, 1, none⟩ u) := by
  obtain ⟨z, t0, t1, t2, t3, t4, t5, t6, f0, f1, f2, f3, f4, f5, f6⟩ := h
  refine ⟨fun j hj => ?_, ?_, ?_, ?_, ?_, ?_, ?_, ?_, ?_, ?_, ?_, ?_, ?_, ?_, ?_⟩
  case refine_1 => rw [World.cell?_setCell_other _ _ _ _ (by intro he; cases he), World.frozen?_setCell]; exact z j hj
  all_goals go_simp
theorem CT.set2 {b : Nat} {v0 v1 v2 v3 v4 v5 v6 : Value} {w : World} (h : CT b v0 v1 v2 v3 v4 v5 v6 w) (u : Value) : CT b v0 v1 u v3 v4 v5 v6 (w.setCell ⟨b + 1, 2, none⟩ u) := by
  obtain ⟨z, t0, t1, t2, t3, t4, t5, t6, f0, f1, f2, f3, f4, f5, f6⟩ := h
  refine ⟨fun j hj => ?_, ?_, ?_, ?_, ?_, ?_, ?_, ?_, ?_, ?_, ?_, ?_, ?_, ?_, ?_⟩
  case refine_1 => rw [World.cell?_setCell_other _ _ _ _ (by intro he; cases he), World.frozen?_setCell]; exact z j hj
  all_goals go_simp
theorem CT.set3 {b : Nat} {v0 v1 v2 v3 v4 v5 v6 : Value} {w : World} (h : CT b v0 v1 v2 v3 v4 v5 v6 w) (u : Value) : CT b v0 v1 v2 u v4 v5 v6 (w.setCell ⟨b + 1, 3, none⟩ u) := by
  obtain ⟨z, t0, t1, t2, t3, t4, t5, t6, f0, f1, f2, f3, f4, f5, f6⟩ := h
  refine ⟨fun j hj => ?_, ?_, ?_, ?_, ?_, ?_, ?_, ?_, ?_, ?_, ?_, ?_, ?_, ?_, ?_⟩
  case refine_1 => rw [World.cell?_setCell_other _ _ _ _ (by intro he; cases he), World.frozen?_setCell]; exact z j hj
  all_goals go_simp
theorem CT.set4 {b : Nat} {v0 v1 v2 v3 v4 v5 v6 : Value} {w : World} (h : CT b v0 v1 v2 v3 v4 v5 v6 w) (u : Value) : CT b v0 v1 v2 v3 u v5 v6 (w.setCell ⟨b + 1, 4, none⟩ u) := by
  obtain ⟨z, t0, t1, t2, t3, t4, t5, t6, f0, f1, f2, f3, f4, f5, f6⟩ := h
  refine ⟨fun j hj => ?_, ?_, ?_, ?_, ?_, ?_, ?_, ?_, ?_, ?_, ?_, ?_, ?_, ?_, ?_⟩
  case refine_1 => rw [World.cell?_setCell_other _ _ _ _ (by intro he; cases he), World.frozen?_setCell]; exact z j hj
  all_goals go_simp
theorem CT.set5 {b : Nat} {v0 v1 v2 v3 v4 v5 v6 : Value} {w : World} (h : CT b v0 v1 v2 v3 v4 v5 v6 w) (u : Value) : CT b v0 v1 v2 v3 v4 u v6 (w.setCell ⟨b + 1, 5, none⟩ u) := by
  obtain ⟨z, t0, t1, t2, t3, t4, t5, t6, f0, f1, f2, f3, f4, f5, f6⟩ := h
  refine ⟨fun j hj => ?_, ?_, ?_, ?_, ?_, ?_, ?_, ?_, ?_, ?_, ?_, ?_, ?_, ?_, ?_⟩
  case refine_1 => rw [World.cell?_setCell_other _ _ _ _ (by intro he; cases he), World.frozen?_setCell]; exact z j hj
  all_goals go_simp
theorem CT.set6 {b : Nat} {v0 v1 v2 v3 v4 v5 v6 : Value} {w : World} (h : CT b v0 v1 v2 v3 v4 v5 v6 w) (u : Value) : CT b v0 v1 v2 v3 v4 v5 u (w.setCell ⟨b + 1, 6, none⟩ u) := by
  obtain ⟨z, t0, t1, t2, t3, t4, t5, t6, f0, f1, f2, f3, f4, f5, f6⟩ := h
  refine ⟨fun j hj => ?_, ?_, ?_, ?_, ?_, ?_, ?_, ?_, ?_, ?_, ?_, ?_, ?_, ?_, ?_⟩
  case refine_1 => rw [World.cell?_setCell_other _ _ _ _ (by intro he; cases he), World.frozen?_setCell]; exact z j hj
  all_goals go_simp
theorem NRow.blk {g n : Nat} {f : Nat → Int} {w w' : World} (h : NRow g f n w) (hk : w'.heap[g]? = w.heap[g]?) : NRow g f n w' := h.block hk
theorem heap_setCells_ne (g : Nat) : ∀ (vs : List Value) (o : Nat) (w : World) (q : Nat), q ≠ g → (w.setCells g o vs).heap[q]? = w.heap[q]? := by
  intro vs
  induction vs with
  | nil => intro o w q _; rfl
  | cons v vs ih =>
    intro o w q hq
    show ((w.setCell ⟨g, o, none⟩ v).setCells g (o + 1) vs).heap[q]? = _
    rw [ih (o + 1) _ q hq]
    exact Below.heap_setCell w ⟨g, o, none⟩ v q (fun e => hq e)
/-- behind a block, unless the list in it is empty. -/
def Ord (g n g' : Nat) : Prop := g ≤ g' ∧ (0 < n → g < g')
/-- What Copy leaves. -/
def CopyPost (T : Tb) (w : World) (e : Ending) (w' : World) : Prop :=
  ∃ g1 g2 g3 g4 g5 g6 : Nat, e = .returned (.agg #[.int .i64 T.rules, .slice (some ⟨g1, 0, none⟩) T.ncl T.ncl, .slice (some ⟨g2, 0, none⟩) T.nlb T.nlb, .slice (some ⟨g3, 0, none⟩) T.nbs T.nbs, .slice (some ⟨g4, 0, none⟩) T.ndf T.ndf, .slice (some ⟨g5, 0, none⟩) T.nck T.nck, .slice (some ⟨g6, 0, none⟩) T.nnx T.nnx]) ∧
    w.heap.size ≤ g1 ∧ Ord g1 T.ncl g2 ∧ Ord g2 T.nlb g3 ∧ Ord g3 T.nbs g4 ∧ Ord g4 T.ndf g5 ∧ Ord g5 T.nck g6 ∧ NRow g1 T.cl T.ncl w' ∧ NRow g2 T.lb T.nlb w' ∧ NRow g3 T.bs T.nbs w' ∧ NRow g4 T.df T.ndf w' ∧ NRow g5 T.ck T.nck w' ∧ NRow g6 T.nx T.nnx w' ∧ Below w.heap.size w w'

set_option maxRecDepth 100000 in
set_option maxHeartbeats 4000000 in
theorem copy_any (sb : Nat) (T : Tb) (A : TbA) (w : World) (hs : TbSz T) (h : TbAt sb T A w) (hI : TbIn T A w) : Calls Try.prog 44 #[.pointer (some ⟨sb, 0, none⟩)] w (CopyPost T w) := by
  have hz := zero_tables
  have hsb : sb < w.heap.size := World.block_lt_of_cell? w _ h.c0
  obtain ⟨W, hW⟩ : ∃ W, W = (w.alloc (.cells #[.int .i64 0, .slice none 0 0, .slice none 0 0, .slice none 0 0, .slice none 0 0, .slice none 0 0, .slice none 0 0] 26)).alloc (.cells #[.int .i64 T.rules, .slice none 0 0, .slice none 0 0, .slice none 0 0, .slice none 0 0, .slice none 0 0, .slice none 0 0] 26) := ⟨_, rfl⟩
  have hR0 : CT w.heap.size (.int .i64 T.rules) (.slice none 0 0) (.slice none 0 0) (.slice none 0 0) (.slice none 0 0) (.slice none 0 0) (.slice none 0 0) W := by
    rw [hW]
    refine ⟨fun j hj => ?_, ?_, ?_, ?_, ?_, ?_, ?_, ?_, ?_, ?_, ?_, ?_, ?_, ?_, ?_⟩
    case refine_1 => rcases j with _ | _ | _ | _ | _ | _ | _ | j <;> first | (refine ⟨?_, ?_⟩ <;> go_simp) | omega
    all_goals go_simp
  have hB0 : Below w.heap.size w W := by
    rw [hW]
    exact ((Below.refl _ _).alloc (Nat.le_refl _) _).alloc (by simp) _
  have HAt : Hid (∀ w', Below w.heap.size w w' → TbAt sb T A w') := fun w' hW => h.below hW
  have HIn : Hid (∀ w', Below w.heap.size w w' → TbIn T A w') := fun w' hW => hI.below hW
  have c0 := h.c0
  have c1 := h.c1
  clear h hI
  go_enter Try.func44, Try.ntmps44
  go_wp2_with fail
  rw [← hW]
  clear hW hz c0 c1
  have L0 : w.heap.size + 1 < W.heap.size := World.block_lt_of_cell? W _ hR0.t0
  generalize hb : w.heap.size = b at *
  -- list 1
  refine Calls.mono (copyOf_any A.a1 T.ncl A.c1 T.cl W (by have := hs.s1; omega) (HIn.out _ hB0).l1) ?_
  rintro e w1 ⟨rfl, n1, o1⟩
  have R1 := hR0.below o1
  have B1 := hB0.trans (o1.mono (by have := hB0.size; omega))
  have S1 := R1.set1 (.slice (some ⟨W.heap.size, 0, none⟩) T.ncl T.ncl)
  have C1 : Below b w (w1.setCell ⟨b + 1, 1, none⟩ (.slice (some ⟨W.heap.size, 0, none⟩) T.ncl T.ncl)) := B1.setCell (p := ⟨b + 1, 1, none⟩) (by simp) _
  have z1 : (w1.setCell ⟨b + 1, 1, none⟩ (.slice (some ⟨W.heap.size, 0, none⟩) T.ncl T.ncl)).heap.size = w1.heap.size := by simp [World.setCell]
  have E1 : Ord W.heap.size T.ncl (w1.setCell ⟨b + 1, 1, none⟩ (.slice (some ⟨W.heap.size, 0, none⟩) T.ncl T.ncl)).heap.size := by
    rw [z1]
    exact ⟨o1.size, fun h => n1.lt h⟩
  have L1 : b + 1 < (w1.setCell ⟨b + 1, 1, none⟩ (.slice (some ⟨W.heap.size, 0, none⟩) T.ncl T.ncl)).heap.size := by rw [z1]; have := o1.size; omega
  have N1 : NRow W.heap.size T.cl T.ncl (w1.setCell ⟨b + 1, 1, none⟩ (.slice (some ⟨W.heap.size, 0, none⟩) T.ncl T.ncl)) := n1.blk (Below.heap_setCell w1 ⟨b + 1, 1, none⟩ _ _ (fun e => by have e' : W.heap.size = b + 1 := e; omega))
  have q1 := R1.t1
  have p1 := R1.f1
  have c1 := (HAt.out _ C1).c2
  have HE1 : Hid (Ord W.heap.size T.ncl (w1.setCell ⟨b + 1, 1, none⟩ (.slice (some ⟨W.heap.size, 0, none⟩) T.ncl T.ncl)).heap.size) := E1
  clear E1 z1 o1 n1
  go_wp2_with fail
  clear q1 p1 c1 R1 B1 hR0 hB0
  have G1 : b + 1 < W.heap.size := L0
  clear L0
  generalize w1.setCell ⟨b + 1, 1, none⟩ (.slice (some ⟨W.heap.size, 0, none⟩) T.ncl T.ncl) = W1 at *
  generalize W.heap.size = g1 at *
  -- list 2
  refine Calls.mono (copyOf_any A.a2 T.nlb A.c2 T.lb W1 (by have := hs.s2; omega) (HIn.out _ C1).l2) ?_
  rintro e w2 ⟨rfl, n2, o2⟩
  have R2 := S1.below o2
  have B2 := C1.trans (o2.mono (by have := C1.size; omega))
  have S2 := R2.set2 (.slice (some ⟨W1.heap.size, 0, none⟩) T.nlb T.nlb)
  have C2 : Below b w (w2.setCell ⟨b + 1, 2, none⟩ (.slice (some ⟨W1.heap.size, 0, none⟩) T.nlb T.nlb)) := B2.setCell (p := ⟨b + 1, 2, none⟩) (by simp) _
  have z2 : (w2.setCell ⟨b + 1, 2, none⟩ (.slice (some ⟨W1.heap.size, 0, none⟩) T.nlb T.nlb)).heap.size = w2.heap.size := by simp [World.setCell]
  have E2 : Ord W1.heap.size T.nlb (w2.setCell ⟨b + 1, 2, none⟩ (.slice (some ⟨W1.heap.size, 0, none⟩) T.nlb T.nlb)).heap.size := by
    rw [z2]
    exact ⟨o2.size, fun h => n2.lt h⟩
  have L2 : b + 1 < (w2.setCell ⟨b + 1, 2, none⟩ (.slice (some ⟨W1.heap.size, 0, none⟩) T.nlb T.nlb)).heap.size := by rw [z2]; have := o2.size; omega
  have N2 : NRow W1.heap.size T.lb T.nlb (w2.setCell ⟨b + 1, 2, none⟩ (.slice (some ⟨W1.heap.size, 0, none⟩) T.nlb T.nlb)) := n2.blk (Below.heap_setCell w2 ⟨b + 1, 2, none⟩ _ _ (fun e => by have e' : W1.heap.size = b + 1 := e; omega))
  have M1 : NRow g1 T.cl T.ncl (w2.setCell ⟨b + 1, 2, none⟩ (.slice (some ⟨W1.heap.size, 0, none⟩) T.nlb T.nlb)) := (N1.below o2).blk (Below.heap_setCell w2 ⟨b + 1, 2, none⟩ _ _ (fun e => by have e' : g1 = b + 1 := e; omega))
  clear N1
  have N1 := M1
  clear M1
  have q2 := R2.t2
  have p2 := R2.f2
  have c2 := (HAt.out _ C2).c3
  have HE2 : Hid (Ord W1.heap.size T.nlb (w2.setCell ⟨b + 1, 2, none⟩ (.slice (some ⟨W1.heap.size, 0, none⟩) T.nlb T.nlb)).heap.size) := E2
  clear E2 z2 o2 n2
  go_wp2_with fail
  clear q2 p2 c2 R2 B2 S1 C1
  have G2 : b + 1 < W1.heap.size := L1
  clear L1
  generalize w2.setCell ⟨b + 1, 2, none⟩ (.slice (some ⟨W1.heap.size, 0, none⟩) T.nlb T.nlb) = W2 at *
  generalize W1.heap.size = g2 at *
  -- list 3
  refine Calls.mono (copyOf_any A.a3 T.nbs A.c3 T.bs W2 (by have := hs.s3; omega) (HIn.out _ C2).l3) ?_
  rintro e w3 ⟨rfl, n3, o3⟩
  have R3 := S2.below o3
  have B3 := C2.trans (o3.mono (by have := C2.size; omega))
  have S3 := R3.set3 (.slice (some ⟨W2.heap.size, 0, none⟩) T.nbs T.nbs)
  have C3 : Below b w (w3.setCell ⟨b + 1, 3, none⟩ (.slice (some ⟨W2.heap.size, 0, none⟩) T.nbs T.nbs)) := B3.setCell (p := ⟨b + 1, 3, none⟩) (by simp) _
  have z3 : (w3.setCell ⟨b + 1, 3, none⟩ (.slice (some ⟨W2.heap.size, 0, none⟩) T.nbs T.nbs)).heap.size = w3.heap.size := by simp [World.setCell]
  have E3 : Ord W2.heap.size T.nbs (w3.setCell ⟨b + 1, 3, none⟩ (.slice (some ⟨W2.heap.size, 0, none⟩) T.nbs T.nbs)).heap.size := by
    rw [z3]
    exact ⟨o3.size, fun h => n3.lt h⟩
  have L3 : b + 1 < (w3.setCell ⟨b + 1, 3, none⟩ (.slice (some ⟨W2.heap.size, 0, none⟩) T.nbs T.nbs)).heap.size := by rw [z3]; have := o3.size; omega
  have N3 : NRow W2.heap.size T.bs T.nbs (w3.setCell ⟨b + 1, 3, none⟩ (.slice (some ⟨W2.heap.size, 0, none⟩) T.nbs T.nbs)) := n3.blk (Below.heap_setCell w3 ⟨b + 1, 3, none⟩ _ _ (fun e => by have e' : W2.heap.size = b + 1 := e; omega))
  have M1 : NRow g1 T.cl T.ncl (w3.setCell ⟨b + 1, 3, none⟩ (.slice (some ⟨W2.heap.size, 0, none⟩) T.nbs T.nbs)) := (N1.below o3).blk (Below.heap_setCell w3 ⟨b + 1, 3, none⟩ _ _ (fun e => by have e' : g1 = b + 1 := e; omega))
  clear N1
  have N1 := M1
  clear M1
  have M2 : NRow g2 T.lb T.nlb (w3.setCell ⟨b + 1, 3, none⟩ (.slice (some ⟨W2.heap.size, 0, none⟩) T.nbs T.nbs)) := (N2.below o3).blk (Below.heap_setCell w3 ⟨b + 1, 3, none⟩ _ _ (fun e => by have e' : g2 = b + 1 := e; omega))
  clear N2
  have N2 := M2
  clear M2
  have q3 := R3.t3
  have p3 := R3.f3
  have c3 := (HAt.out _ C3).c4
  have HE3 : Hid (Ord W2.heap.size T.nbs (w3.setCell ⟨b + 1, 3, none⟩ (.slice (some ⟨W2.heap.size, 0, none⟩) T.nbs T.nbs)).heap.size) := E3
  clear E3 z3 o3 n3
  go_wp2_with fail
  clear q3 p3 c3 R3 B3 S2 C2
  have G3 : b + 1 < W2.heap.size := L2
  clear L2
  generalize w3.setCell ⟨b + 1, 3, none⟩ (.slice (some ⟨W2.heap.size, 0, none⟩) T.nbs T.nbs) = W3 at *
  generalize W2.heap.size = g3 at *
  -- list 4
  refine Calls.mono (copyOf_any A.a4 T.ndf A.c4 T.df W3 (by have := hs.s4; omega) (HIn.out _ C3).l4) ?_
  rintro e w4 ⟨rfl, n4, o4⟩
  have R4 := S3.below o4
  have B4 := C3.trans (o4.mono (by have := C3.size; omega))
  have S4 := R4.set4 (.slice (some ⟨W3.heap.size, 0, none⟩) T.ndf T.ndf)
  have C4 : Below b w (w4.setCell ⟨b + 1, 4, none⟩ (.slice (some ⟨W3.heap.size, 0, none⟩) T.ndf T.ndf)) := B4.setCell (p := ⟨b + 1, 4, none⟩) (by simp) _
  have z4 : (w4.setCell ⟨b + 1, 4, none⟩ (.slice (some ⟨W3.heap.size, 0, none⟩) T.ndf T.ndf)).heap.size = w4.heap.size := by simp [World.setCell]
  have E4 : Ord W3.heap.size T.ndf (w4.setCell ⟨b + 1, 4, none⟩ (.slice (some ⟨W3.heap.size, 0, none⟩) T.ndf T.ndf)).heap.size := by
    rw [z4]
    exact ⟨o4.size, fun h => n4.lt h⟩
  have L4 : b + 1 < (w4.setCell ⟨b + 1, 4, none⟩ (.slice (some ⟨W3.heap.size, 0, none⟩) T.ndf T.ndf)).heap.size := by rw [z4]; have := o4.size; omega
  have N4 : NRow W3.heap.size T.df T.ndf (w4.setCell ⟨b + 1, 4, none⟩ (.slice (some ⟨W3.heap.size, 0, none⟩) T.ndf T.ndf)) := n4.blk (Below.heap_setCell w4 ⟨b + 1, 4, none⟩ _ _ (fun e => by have e' : W3.heap.size = b + 1 := e; omega))
  have M1 : NRow g1 T.cl T.ncl (w4.setCell ⟨b + 1, 4, none⟩ (.slice (some ⟨W3.heap.size, 0, none⟩) T.ndf T.ndf)) := (N1.below o4).blk (Below.heap_setCell w4 ⟨b + 1, 4, none⟩ _ _ (fun e => by have e' : g1 = b + 1 := e; omega))
  clear N1
  have N1 := M1
  clear M1
  have M2 : NRow g2 T.lb T.nlb (w4.setCell ⟨b + 1, 4, none⟩ (.slice (some ⟨W3.heap.size, 0, none⟩) T.ndf T.ndf)) := (N2.below o4).blk (Below.heap_setCell w4 ⟨b + 1, 4, none⟩ _ _ (fun e => by have e' : g2 = b + 1 := e; omega))
  clear N2
  have N2 := M2
  clear M2
  have M3 : NRow g3 T.bs T.nbs (w4.setCell ⟨b + 1, 4, none⟩ (.slice (some ⟨W3.heap.size, 0, none⟩) T.ndf T.ndf)) := (N3.below o4).blk (Below.heap_setCell w4 ⟨b + 1, 4, none⟩ _ _ (fun e => by have e' : g3 = b + 1 := e; omega))
  clear N3
  have N3 := M3
  clear M3
  have q4 := R4.t4
  have p4 := R4.f4
  have c4 := (HAt.out _ C4).c5
  have HE4 : Hid (Ord W3.heap.size T.ndf (w4.setCell ⟨b + 1, 4, none⟩ (.slice (some ⟨W3.heap.size, 0, none⟩) T.ndf T.ndf)).heap.size) := E4
  clear E4 z4 o4 n4
  go_wp2_with fail
  clear q4 p4 c4 R4 B4 S3 C3
  have G4 : b + 1 < W3.heap.size := L3
  clear L3
  generalize w4.setCell ⟨b + 1, 4, none⟩ (.slice (some ⟨W3.heap.size, 0, none⟩) T.ndf T.ndf) = W4 at *
  generalize W3.heap.size = g4 at *
  -- list 5
  refine Calls.mono (copyOf_any A.a5 T.nck A.c5 T.ck W4 (by have := hs.s5; omega) (HIn.out _ C4).l5) ?_
  rintro e w5 ⟨rfl, n5, o5⟩
  have R5 := S4.below o5
  have B5 := C4.trans (o5.mono (by have := C4.size; omega))
  have S5 := R5.set5 (.slice (some ⟨W4.heap.size, 0, none⟩) T.nck T.nck)
  have C5 : Below b w (w5.setCell ⟨b + 1, 5, none⟩ (.slice (some ⟨W4.heap.size, 0, none⟩) T.nck T.nck)) := B5.setCell (p := ⟨b + 1, 5, none⟩) (by simp) _
  have z5 : (w5.setCell ⟨b + 1, 5, none⟩ (.slice (some ⟨W4.heap.size, 0, none⟩) T.nck T.nck)).heap.size = w5.heap.size := by simp [World.setCell]
  have E5 : Ord W4.heap.size T.nck (w5.setCell ⟨b + 1, 5, none⟩ (.slice (some ⟨W4.heap.size, 0, none⟩) T.nck T.nck)).heap.size := by
    rw [z5]
    exact ⟨o5.size, fun h => n5.lt h⟩
  have L5 : b + 1 < (w5.setCell ⟨b + 1, 5, none⟩ (.slice (some ⟨W4.heap.size, 0, none⟩) T.nck T.nck)).heap.size := by rw [z5]; have := o5.size; omega
  have N5 : NRow W4.heap.size T.ck T.nck (w5.setCell ⟨b + 1, 5, none⟩ (.slice (some ⟨W4.heap.size, 0, none⟩) T.nck T.nck)) := n5.blk (Below.heap_setCell w5 ⟨b + 1, 5, none⟩ _ _ (fun e => by have e' : W4.heap.size = b + 1 := e; omega))
  have M1 : NRow g1 T.cl T.ncl (w5.setCell ⟨b + 1, 5, none⟩ (.slice (some ⟨W4.heap.size, 0, none⟩) T.nck T.nck)) := (N1.below o5).blk (Below.heap_setCell w5 ⟨b + 1, 5, none⟩ _ _ (fun e => by have e' : g1 = b + 1 := e; omega))
  clear N1
  have N1 := M1
  clear M1
  have M2 : NRow g2 T.lb T.nlb (w5.setCell ⟨b + 1, 5, none⟩ (.slice (some ⟨W4.heap.size, 0, none⟩) T.nck T.nck)) := (N2.below o5).blk (Below.heap_setCell w5 ⟨b + 1, 5, none⟩ _ _ (fun e => by have e' : g2 = b + 1 := e; omega))
  clear N2
  have N2 := M2
  clear M2
  have M3 : NRow g3 T.bs T.nbs (w5.setCell ⟨b + 1, 5, none⟩ (.slice (some ⟨W4.heap.size, 0, none⟩) T.nck T.nck)) := (N3.below o5).blk (Below.heap_setCell w5 ⟨b + 1, 5, none⟩ _ _ (fun e => by have e' : g3 = b + 1 := e; omega))
  clear N3
  have N3 := M3
  clear M3
  have M4 : NRow g4 T.df T.ndf (w5.setCell ⟨b + 1, 5, none⟩ (.slice (some ⟨W4.heap.size, 0, none⟩) T.nck T.nck)) := (N4.below o5).blk (Below.heap_setCell w5 ⟨b + 1, 5, none⟩ _ _ (fun e => by have e' : g4 = b + 1 := e; omega))
  clear N4
  have N4 := M4
  clear M4
  have q5 := R5.t5
  have p5 := R5.f5
  have c5 := (HAt.out _ C5).c6
  have HE5 : Hid (Ord W4.heap.size T.nck (w5.setCell ⟨b + 1, 5, none⟩ (.slice (some ⟨W4.heap.size, 0, none⟩) T.nck T.nck)).heap.size) := E5
  clear E5 z5 o5 n5
  go_wp2_with fail
  clear q5 p5 c5 R5 B5 S4 C4
  have G5 : b + 1 < W4.heap.size := L4
  clear L4
  generalize w5.setCell ⟨b + 1, 5, none⟩ (.slice (some ⟨W4.heap.size, 0, none⟩) T.nck T.nck) = W5 at *
  generalize W4.heap.size = g5 at *
  -- list 6
  refine Calls.mono (copyOf_any A.a6 T.nnx A.c6 T.nx W5 (by have := hs.s6; omega) (HIn.out _ C5).l6) ?_
  rintro e w6 ⟨rfl, n6, o6⟩
  have R6 := S5.below o6
  have B6 := C5.trans (o6.mono (by have := C5.size; omega))
  have S6 := R6.set6 (.slice (some ⟨W5.heap.size, 0, none⟩) T.nnx T.nnx)
  have C6 : Below b w (w6.setCell ⟨b + 1, 6, none⟩ (.slice (some ⟨W5.heap.size, 0, none⟩) T.nnx T.nnx)) := B6.setCell (p := ⟨b + 1, 6, none⟩) (by simp) _
  have z6 : (w6.setCell ⟨b + 1, 6, none⟩ (.slice (some ⟨W5.heap.size, 0, none⟩) T.nnx T.nnx)).heap.size = w6.heap.size := by simp [World.setCell]
  have E6 : Ord W5.heap.size T.nnx (w6.setCell ⟨b + 1, 6, none⟩ (.slice (some ⟨W5.heap.size, 0, none⟩) T.nnx T.nnx)).heap.size := by
    rw [z6]
    exact ⟨o6.size, fun h => n6.lt h⟩
  have L6 : b + 1 < (w6.setCell ⟨b + 1, 6, none⟩ (.slice (some ⟨W5.heap.size, 0, none⟩) T.nnx T.nnx)).heap.size := by rw [z6]; have := o6.size; omega
  have N6 : NRow W5.heap.size T.nx T.nnx (w6.setCell ⟨b + 1, 6, none⟩ (.slice (some ⟨W5.heap.size, 0, none⟩) T.nnx T.nnx)) := n6.blk (Below.heap_setCell w6 ⟨b + 1, 6, none⟩ _ _ (fun e => by have e' : W5.heap.size = b + 1 := e; omega))
  have M1 : NRow g1 T.cl T.ncl (w6.setCell ⟨b + 1, 6, none⟩ (.slice (some ⟨W5.heap.size, 0, none⟩) T.nnx T.nnx)) := (N1.below o6).blk (Below.heap_setCell w6 ⟨b + 1, 6, none⟩ _ _ (fun e => by have e' : g1 = b + 1 := e; omega))
  clear N1
  have N1 := M1
  clear M1
  have M2 : NRow g2 T.lb T.nlb (w6.setCell ⟨b + 1, 6, none⟩ (.slice (some ⟨W5.heap.size, 0, none⟩) T.nnx T.nnx)) := (N2.below o6).blk (Below.heap_setCell w6 ⟨b + 1, 6, none⟩ _ _ (fun e => by have e' : g2 = b + 1 := e; omega))
  clear N2
  have N2 := M2
  clear M2
  have M3 : NRow g3 T.bs T.nbs (w6.setCell ⟨b + 1, 6, none⟩ (.slice (some ⟨W5.heap.size, 0, none⟩) T.nnx T.nnx)) := (N3.below o6).blk (Below.heap_setCell w6 ⟨b + 1, 6, none⟩ _ _ (fun e => by have e' : g3 = b + 1 := e; omega))
  clear N3
  have N3 := M3
  clear M3
  have M4 : NRow g4 T.df T.ndf (w6.setCell ⟨b + 1, 6, none⟩ (.slice (some ⟨W5.heap.size, 0, none⟩) T.nnx T.nnx)) := (N4.below o6).blk (Below.heap_setCell w6 ⟨b + 1, 6, none⟩ _ _ (fun e => by have e' : g4 = b + 1 := e; omega))
  clear N4
  have N4 := M4
  clear M4
  have M5 : NRow g5 T.ck T.nck (w6.setCell ⟨b + 1, 6, none⟩ (.slice (some ⟨W5.heap.size, 0, none⟩) T.nnx T.nnx)) := (N5.below o6).blk (Below.heap_setCell w6 ⟨b + 1, 6, none⟩ _ _ (fun e => by have e' : g5 = b + 1 := e; omega))
  clear N5
  have N5 := M5
  clear M5
  have q6 := R6.t6
  have p6 := R6.f6
  have hrg : (w6.setCell ⟨b + 1, 6, none⟩ (.slice (some ⟨W5.heap.size, 0, none⟩) T.nnx T.nnx)).rangeAt (b + 1) 0 [.int .i64 T.rules, .slice (some ⟨g1, 0, none⟩) T.ncl T.ncl, .slice (some ⟨g2, 0, none⟩) T.nlb T.nlb, .slice (some ⟨g3, 0, none⟩) T.nbs T.nbs, .slice (some ⟨g4, 0, none⟩) T.ndf T.ndf, .slice (some ⟨g5, 0, none⟩) T.nck T.nck, .slice (some ⟨W5.heap.size, 0, none⟩) T.nnx T.nnx] := fun j v hv => by
    rw [Nat.zero_add]
    rcases j with _ | _ | _ | _ | _ | _ | _ | j
    · cases hv; exact S6.t0
    · cases hv; exact S6.t1
    · cases hv; exact S6.t2
    · cases hv; exact S6.t3
    · cases hv; exact S6.t4
    · cases hv; exact S6.t5
    · cases hv; exact S6.t6
    · cases hv
  have hth := S6.z
  have HE6 : Hid (Ord W5.heap.size T.nnx (w6.setCell ⟨b + 1, 6, none⟩ (.slice (some ⟨W5.heap.size, 0, none⟩) T.nnx T.nnx)).heap.size) := E6
  clear E6 z6 o6 n6
  go_wp2_with (first | (refine wpList_load_mid rfl 26 _ rfl (b + 1) 0 rfl [.int .i64 T.rules, .slice (some ⟨g1, 0, none⟩) T.ncl T.ncl, .slice (some ⟨g2, 0, none⟩) T.nlb T.nlb, .slice (some ⟨g3, 0, none⟩) T.nbs T.nbs, .slice (some ⟨g4, 0, none⟩) T.ndf T.ndf, .slice (some ⟨g5, 0, none⟩) T.nck T.nck, .slice (some ⟨W5.heap.size, 0, none⟩) T.nnx T.nnx] _ hrg Try.underlying26 rfl info_tables ?_) | (refine wpList_store_mid rfl 26 _ _ rfl b 0 #[.int .i64 T.rules, .slice (some ⟨g1, 0, none⟩) T.ncl T.ncl, .slice (some ⟨g2, 0, none⟩) T.nlb T.nlb, .slice (some ⟨g3, 0, none⟩) T.nbs T.nbs, .slice (some ⟨g4, 0, none⟩) T.ndf T.ndf, .slice (some ⟨g5, 0, none⟩) T.nck T.nck, .slice (some ⟨W5.heap.size, 0, none⟩) T.nnx T.nnx] rfl rfl hth info_tables (by simp [Value.oneCell']) ?_))
  clear q6 p6 R6 B6 S5 C5
  generalize (w6.setCell ⟨b + 1, 6, none⟩ (.slice (some ⟨W5.heap.size, 0, none⟩) T.nnx T.nnx)) = W6 at *
  have hG := setCells_grown b [.int .i64 T.rules, .slice (some ⟨g1, 0, none⟩) T.ncl T.ncl, .slice (some ⟨g2, 0, none⟩) T.nlb T.nlb, .slice (some ⟨g3, 0, none⟩) T.nbs T.nbs, .slice (some ⟨g4, 0, none⟩) T.ndf T.ndf, .slice (some ⟨g5, 0, none⟩) T.nck T.nck, .slice (some ⟨W5.heap.size, 0, none⟩) T.nnx T.nnx] 0 W6
  have hr' := World.rangeAt_setCells_same W6 b 0 [.int .i64 T.rules, .slice (some ⟨g1, 0, none⟩) T.ncl T.ncl, .slice (some ⟨g2, 0, none⟩) T.nlb T.nlb, .slice (some ⟨g3, 0, none⟩) T.nbs T.nbs, .slice (some ⟨g4, 0, none⟩) T.ndf T.ndf, .slice (some ⟨g5, 0, none⟩) T.nck T.nck, .slice (some ⟨W5.heap.size, 0, none⟩) T.nnx T.nnx] hth
  have hfin := run_loadVar_mid (P := Try.prog) (W6.setCells b 0 [.int .i64 T.rules, .slice (some ⟨g1, 0, none⟩) T.ncl T.ncl, .slice (some ⟨g2, 0, none⟩) T.nlb T.nlb, .slice (some ⟨g3, 0, none⟩) T.nbs T.nbs, .slice (some ⟨g4, 0, none⟩) T.ndf T.ndf, .slice (some ⟨g5, 0, none⟩) T.nck T.nck, .slice (some ⟨W5.heap.size, 0, none⟩) T.nnx T.nnx]) b 0 26 [.int .i64 T.rules, .slice (some ⟨g1, 0, none⟩) T.ncl T.ncl, .slice (some ⟨g2, 0, none⟩) T.nlb T.nlb, .slice (some ⟨g3, 0, none⟩) T.nbs T.nbs, .slice (some ⟨g4, 0, none⟩) T.ndf T.ndf, .slice (some ⟨g5, 0, none⟩) T.nck T.nck, .slice (some ⟨W5.heap.size, 0, none⟩) T.nnx T.nnx] _ hr' Try.underlying26 rfl info_tables
  refine bodyPost_ret (v := .agg #[.int .i64 T.rules, .slice (some ⟨g1, 0, none⟩) T.ncl T.ncl, .slice (some ⟨g2, 0, none⟩) T.nlb T.nlb, .slice (some ⟨g3, 0, none⟩) T.nbs T.nbs, .slice (some ⟨g4, 0, none⟩) T.ndf T.ndf, .slice (some ⟨g5, 0, none⟩) T.nck T.nck, .slice (some ⟨W5.heap.size, 0, none⟩) T.nnx T.nnx]) (eResults_load1 Try.results44 rfl hfin) rfl ?_
  have kp : ∀ q, q ≠ b → (W6.setCells b 0 [.int .i64 T.rules, .slice (some ⟨g1, 0, none⟩) T.ncl T.ncl, .slice (some ⟨g2, 0, none⟩) T.nlb T.nlb, .slice (some ⟨g3, 0, none⟩) T.nbs T.nbs, .slice (some ⟨g4, 0, none⟩) T.ndf T.ndf, .slice (some ⟨g5, 0, none⟩) T.nck T.nck, .slice (some ⟨W5.heap.size, 0, none⟩) T.nnx T.nnx]).heap[q]? = W6.heap[q]? := fun q hq => heap_setCells_ne b _ 0 W6 q hq
  generalize W6.setCells b 0 [.int .i64 T.rules, .slice (some ⟨g1, 0, none⟩) T.ncl T.ncl, .slice (some ⟨g2, 0, none⟩) T.nlb T.nlb, .slice (some ⟨g3, 0, none⟩) T.nbs T.nbs, .slice (some ⟨g4, 0, none⟩) T.ndf T.ndf, .slice (some ⟨g5, 0, none⟩) T.nck T.nck, .slice (some ⟨W5.heap.size, 0, none⟩) T.nnx T.nnx] = W9 at *
  refine ⟨g1, g2, g3, g4, g5, W5.heap.size, rfl, by omega, HE1.out, HE2.out, HE3.out, HE4.out, HE5.out, N1.blk (kp _ (by omega)), N2.blk (kp _ (by omega)), N3.blk (kp _ (by omega)), N4.blk (kp _ (by omega)), N5.blk (kp _ (by omega)), N6.blk (kp _ (by omega)), ?_⟩
  rw [hb]
  exact C6.grown hG (by have := C6.size; omega) (fun q hq => by cases hq; exact Nat.le_refl _)
end Go.Proofs.Ytoaaklhpmhjhkaa
