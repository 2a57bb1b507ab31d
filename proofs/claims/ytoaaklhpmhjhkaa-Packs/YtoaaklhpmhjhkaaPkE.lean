/-
  Machines; the program's and the reference's SoundMachine.
-/
import Derived.Test.YtoaaklhpmhjhkaaPkA
import Derived.Test.YtoaaklhpmhjhkaaEncE
namespace Go.Proofs.Ytoaaklhpmhjhkaa
open Go.RowKit

/-- A machine, as numbers. -/
structure Mc where
  rules : Int
  cl : Nat → Int
  ncl : Nat
  lb : Nat → Int
  nlb : Nat
  nx : Nat → Int
  nnx : Nat
/-- Where its lists lie. -/
structure McA where
  a1 : Option Addr
  c1 : Nat
  a2 : Option Addr
  c2 : Nat
  a3 : Option Addr
  c3 : Nat
def McA.cells (A : McA) (M : Mc) : Array Value := #[.int .i64 M.rules, .slice A.a1 M.ncl A.c1, .slice A.a2 M.nlb A.c2, .slice A.a3 M.nnx A.c3]
structure McIn (M : Mc) (A : McA) (w : World) : Prop where
  l1 : IL A.a1 M.cl M.ncl w
  l2 : IL A.a2 M.lb M.nlb w
  l3 : IL A.a3 M.nx M.nnx w
theorem McIn.below {M : Mc} {A : McA} {w w' : World} (h : McIn M A w) (hW : Below w.heap.size w w') : McIn M A w' := ⟨h.l1.below hW, h.l2.below hW, h.l3.below hW⟩
theorem McIn.heap {M : Mc} {A : McA} {w w' : World} (h : McIn M A w) (hW : w'.heap = w.heap) : McIn M A w' := ⟨h.l1.heap hW, h.l2.heap hW, h.l3.heap hW⟩
structure McSz (M : Mc) : Prop where
  s1 : M.ncl + 3 ≤ 17592186044416
  s2 : M.nlb + 3 ≤ 17592186044416
  s3 : M.nnx + 3 ≤ 17592186044416
structure McAt (b : Nat) (M : Mc) (A : McA) (w : World) : Prop where
  c0 : w.cell? ⟨b, 0, none⟩ = some (.int .i64 M.rules)
  c1 : w.cell? ⟨b, 1, none⟩ = some (.slice A.a1 M.ncl A.c1)
  c2 : w.cell? ⟨b, 2, none⟩ = some (.slice A.a2 M.nlb A.c2)
  c3 : w.cell? ⟨b, 3, none⟩ = some (.slice A.a3 M.nnx A.c3)
theorem McAt.lt {b : Nat} {M : Mc} {A : McA} {w : World} (h : McAt b M A w) : b < w.heap.size := World.block_lt_of_cell? w _ h.c0
theorem McAt.blk {b : Nat} {M : Mc} {A : McA} {w w' : World} (h : McAt b M A w) (hb : w'.heap[b]? = w.heap[b]?) : McAt b M A w' := by
  have e : ∀ k, w'.cell? ⟨b, k, none⟩ = w.cell? ⟨b, k, none⟩ := fun k => World.cell?_of_block (w := w) (a := ⟨b, k, none⟩) hb
  exact ⟨by rw [e]; exact h.c0, by rw [e]; exact h.c1, by rw [e]; exact h.c2, by rw [e]; exact h.c3⟩
theorem McAt.below {b : Nat} {M : Mc} {A : McA} {w w' : World} (h : McAt b M A w) (hW : Below w.heap.size w w') : McAt b M A w' := h.blk (hW.block b h.lt)
theorem McAt.heap {b : Nat} {M : Mc} {A : McA} {w w' : World} (h : McAt b M A w) (hW : w'.heap = w.heap) : McAt b M A w' := h.blk (by rw [hW])
theorem McAt.boxed (M : Mc) (A : McA) (w : World) (t : TypeId) : McAt w.heap.size M A (w.alloc (.cells (A.cells M) t)) := by
  refine ⟨?_, ?_, ?_, ?_⟩ <;> (rw [World.cell?_alloc_new]; rfl)
/-- How many classes. -/
def Mc.k (M : Mc) : Nat := cls M.cl M.ncl
/-- It is sound. -/
structure SndM (M : Mc) : Prop where
  hd : Hd M.rules M.cl M.ncl M.lb M.nlb
  e : M.nnx = M.nlb * M.k
  b : ∀ i, i < M.nnx → -1 ≤ M.nx i ∧ M.nx i ≤ (M.nlb : Int) - 1

set_option maxRecDepth 100000 in
set_option maxHeartbeats 2000000 in
theorem tabSoundM_any (b : Nat) (M : Mc) (A : McA) (w : World) (hs : McSz M) (h : McAt b M A w) (hI : McIn M A w) :
    Calls Try.prog 105 #[.pointer (some ⟨b, 0, none⟩)] w (BPostB (SndM M) w) := by
  have m1 : M.ncl ≤ maxLen := by have := hs.s1; unfold maxLen; omega
  have m2 : M.nlb ≤ maxLen := by have := hs.s2; unfold maxLen; omega
  have m3 : M.nnx ≤ maxLen := by have := hs.s3; unfold maxLen; omega
  obtain ⟨p1, k1, f1⟩ := dec_calls 123 #[.int .i64 M.rules, .slice A.a1 M.ncl A.c1, .slice A.a2 M.nlb A.c2] _ w (fun w' hw => tabHead_any _ _ _ _ _ _ _ _ _ w' m1 m2 (hI.l1.heap hw) (hI.l2.heap hw))
  have F1 : Hid (∀ w', w'.heap = w.heap → Calls Try.prog 123 #[.int .i64 M.rules, .slice A.a1 M.ncl A.c1, .slice A.a2 M.nlb A.c2] w' fun e w'' => e = .returned (.bool p1) ∧ w'' = w') := f1
  have F2 : Hid (∀ w', w'.heap = w.heap → Calls Try.prog 91 #[.slice A.a1 M.ncl A.c1] w' fun e w'' => e = .returned (.int .i64 M.k) ∧ w'' = w') := fun w' hw => tabClasses_any _ _ _ _ _ m1 (hI.l1.heap hw)
  have F3 : Hid (∀ w', w'.heap = w.heap → Calls Try.prog 125 #[.slice A.a3 M.nnx A.c3, .int .i64 (-1), .int .i64 ((M.nlb : Int) - 1)] w' (BPost (∀ i, i < M.nnx → -1 ≤ M.nx i ∧ M.nx i ≤ (M.nlb : Int) - 1) w')) := fun w' hw => tabWithin_any _ _ _ _ _ _ w' m3 (hI.l3.heap hw)
  have K1 : Hid (p1 = true ↔ Hd M.rules M.cl M.ncl M.lb M.nlb) := k1
  have H0 : Hid (McAt b M A w) := h
  obtain ⟨d0, d1, d2, d3⟩ := h
  have hk : M.k ≤ 256 := cls_le _ _
  unfold maxLen at m1 m2 m3
  clear hI f1 k1 hs
  generalize hK : M.k = K at *
  have HK : Hid (M.k = K) := hK
  clear hK
  go_enter Try.func105, Try.ntmps105
  go_wp2_with fail
  go_quiet ((go_at_call 123; exact Calls.quiet_of_same (F1.out _ rfl)))
  have hW1 : Below w.heap.size w (w.drewN nq) := bel_drewN _ _ _
  have HW1 : Hid ((w.drewN nq).heap = w.heap) := rfl
  have H1' : McAt b M A (w.drewN nq) := H0.out.heap rfl
  generalize w.drewN nq = w1 at *
  clear d0 d1 d2 d3
  obtain ⟨d0, d1, d2, d3⟩ := H1'
  cases p1
  · have HN2 : Hid (¬ SndM M) := fun h => by have := K1.out.2 h.hd; cases this
    go_wp2_with fail
    go_ret
    exact BPostB.f HN2.out hW1
  have HQ1 : Hid (Hd M.rules M.cl M.ncl M.lb M.nlb) := K1.out.1 rfl
  have hl := HQ1.out.2.1
  clear K1
  go_wp2_with fail
  refine Calls.mono (F2.out _ HW1.out) ?_
  rintro e w' ⟨rfl, rfl⟩
  obtain ⟨p, hp⟩ : ∃ p : Nat, p = M.nlb * K := ⟨_, rfl⟩
  have ip : (M.nlb : Int) * (K : Int) = (p : Int) := by rw [hp]; simp
  have hpb : p ≤ 96 * 256 := by rw [hp]; exact Nat.mul_le_mul hl.2 hk
  have Hp : Hid (p = M.nlb * K) := hp
  clear hp
  by_cases he : M.nnx = p
  · have q1 : ((M.nnx : Int) == (p : Int)) = true := by simp [he]
    have q2 : ((M.nnx : Int) != (p : Int)) = false := by simp [he]
    have He : Hid (M.nnx = p) := he
    clear he
    go_wp2_with fail
    refine Calls.mono (F3.out _ HW1.out) ?_
    rintro e w' ⟨p3, rfl, h3, rfl⟩
    have H3 : Hid (p3 = true ↔ ∀ i, i < M.nnx → -1 ≤ M.nx i ∧ M.nx i ≤ (M.nlb : Int) - 1) := h3
    clear h3
    go_wp2_with fail
    go_ret
    exact ⟨p3, rfl, ⟨fun h => ⟨HQ1.out, by rw [He.out, Hp.out, HK.out], H3.out.1 h⟩, fun h => H3.out.2 h.b⟩, hW1⟩
  · have q1 : ((M.nnx : Int) == (p : Int)) = false := beq_eq_false_iff_ne.2 (by omega)
    have q2 : ((M.nnx : Int) != (p : Int)) = true := by simp; omega
    have HN2 : Hid (¬ SndM M) := fun h => he (by rw [h.e, HK.out, Hp.out])
    clear he
    go_wp2_with fail
    go_ret
    exact BPostB.f HN2.out hW1

set_option maxRecDepth 100000 in
set_option maxHeartbeats 2000000 in
theorem refSoundM_any (M : Mc) (A : McA) (w : World) (hs : McSz M) (hI : McIn M A w) :
    Calls Try.prog 54 #[.agg (A.cells M)] w (BPostB (SndM M) w) := by
  have m1 : M.ncl ≤ maxLen := by have := hs.s1; unfold maxLen; omega
  have m2 : M.nlb ≤ maxLen := by have := hs.s2; unfold maxLen; omega
  have m3 : M.nnx ≤ maxLen := by have := hs.s3; unfold maxLen; omega
  obtain ⟨W, hW⟩ : ∃ W, W = w.alloc (.cells (A.cells M) 49) := ⟨_, rfl⟩
  have hB : Below w.heap.size w W := by rw [hW]; exact bel_box _ _
  have hA : McAt w.heap.size M A W := by rw [hW]; exact McAt.boxed M A w _
  have hI2 := hI.below hB
  have F1 : Hid (Calls Try.prog 77 #[.int .i64 M.rules, .slice A.a1 M.ncl A.c1, .slice A.a2 M.nlb A.c2] W (BPost (Hd M.rules M.cl M.ncl M.lb M.nlb) W)) := refHeads_any _ _ _ _ _ _ _ _ _ _ m1 m2 hI2.l1 hI2.l2
  have F2 : Hid (Calls Try.prog 56 #[.slice A.a1 M.ncl A.c1] W fun e w' => e = .returned (.int .i64 M.k) ∧ w' = W) := refClasses_any _ _ _ _ _ m1 hI2.l1
  have F3 : Hid (Calls Try.prog 78 #[.slice A.a3 M.nnx A.c3, .int .i64 (-1), .int .i64 ((M.nlb : Int) - 1)] W (BPost (∀ i, i < M.nnx → -1 ≤ M.nx i ∧ M.nx i ≤ (M.nlb : Int) - 1) W)) := refWithin_any _ _ _ _ _ _ W m3 hI2.l3
  have hk : M.k ≤ 256 := cls_le _ _
  unfold maxLen at m1 m2 m3
  clear hI hI2 hs
  generalize hK : M.k = K at *
  have HK : Hid (M.k = K) := hK
  clear hK
  obtain ⟨d0, d1, d2, d3⟩ := hA
  unfold McA.cells at *
  rw [hW] at d0 d1 d2
  go_enter Try.func54, Try.ntmps54
  go_wp2_with fail
  rw [← hW] at *
  clear hW
  refine Calls.mono F1.out ?_
  rintro e w' ⟨p1, rfl, k1, rfl⟩
  have K1 : Hid (p1 = true ↔ Hd M.rules M.cl M.ncl M.lb M.nlb) := k1
  clear k1
  cases p1
  · have HN2 : Hid (¬ SndM M) := fun h => by have := K1.out.2 h.hd; cases this
    go_wp2_with fail
    go_ret
    exact BPostB.f HN2.out hB
  have HQ1 : Hid (Hd M.rules M.cl M.ncl M.lb M.nlb) := K1.out.1 rfl
  have hl := HQ1.out.2.1
  clear K1
  go_wp2_with fail
  refine Calls.mono F2.out ?_
  rintro e w' ⟨rfl, rfl⟩
  obtain ⟨p, hp⟩ : ∃ p : Nat, p = M.nlb * K := ⟨_, rfl⟩
  have ip : (K : Int) * (M.nlb : Int) = (p : Int) := by rw [hp, Int.mul_comm]; simp
  have hpb : p ≤ 96 * 256 := by rw [hp]; exact Nat.mul_le_mul hl.2 hk
  have Hp : Hid (p = M.nlb * K) := hp
  clear hp
  by_cases he : M.nnx = p
  · have q1 : ((M.nnx : Int) == (p : Int)) = true := by simp [he]
    have He : Hid (M.nnx = p) := he
    clear he
    go_wp2_with fail
    refine Calls.mono F3.out ?_
    rintro e w' ⟨p3, rfl, h3, rfl⟩
    have H3 : Hid (p3 = true ↔ ∀ i, i < M.nnx → -1 ≤ M.nx i ∧ M.nx i ≤ (M.nlb : Int) - 1) := h3
    clear h3
    go_wp2_with fail
    go_ret
    exact ⟨p3, rfl, ⟨fun h => ⟨HQ1.out, by rw [He.out, Hp.out, HK.out], H3.out.1 h⟩, fun h => H3.out.2 h.b⟩, hB⟩
  · have q1 : ((M.nnx : Int) == (p : Int)) = false := beq_eq_false_iff_ne.2 (by omega)
    have HN2 : Hid (¬ SndM M) := fun h => he (by rw [h.e, HK.out, Hp.out])
    clear he
    go_wp2_with fail
    go_ret
    exact BPostB.f HN2.out hB
end Go.Proofs.Ytoaaklhpmhjhkaa
