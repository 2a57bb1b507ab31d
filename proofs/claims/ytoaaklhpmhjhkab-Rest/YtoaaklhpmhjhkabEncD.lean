/-
  Tables; contract of the reference's SoundTables.
-/
import Derived.Test.YtoaaklhpmhjhkabEncC
namespace Go.Proofs.Ytoaaklhpmhjhkab
open Go.RowKit

/-- Tables, as numbers. -/
structure Tb where
  rules : Int
  cl : Nat → Int
  ncl : Nat
  lb : Nat → Int
  nlb : Nat
  bs : Nat → Int
  nbs : Nat
  df : Nat → Int
  ndf : Nat
  ck : Nat → Int
  nck : Nat
  nx : Nat → Int
  nnx : Nat
/-- Where their lists lie. -/
structure TbA where
  a1 : Option Addr
  c1 : Nat
  a2 : Option Addr
  c2 : Nat
  a3 : Option Addr
  c3 : Nat
  a4 : Option Addr
  c4 : Nat
  a5 : Option Addr
  c5 : Nat
  a6 : Option Addr
  c6 : Nat
def TbA.cells (A : TbA) (T : Tb) : Array Value := #[.int .i64 T.rules, .slice A.a1 T.ncl A.c1, .slice A.a2 T.nlb A.c2, .slice A.a3 T.nbs A.c3, .slice A.a4 T.ndf A.c4, .slice A.a5 T.nck A.c5, .slice A.a6 T.nnx A.c6]
structure TbIn (T : Tb) (A : TbA) (w : World) : Prop where
  l1 : IL A.a1 T.cl T.ncl w
  l2 : IL A.a2 T.lb T.nlb w
  l3 : IL A.a3 T.bs T.nbs w
  l4 : IL A.a4 T.df T.ndf w
  l5 : IL A.a5 T.ck T.nck w
  l6 : IL A.a6 T.nx T.nnx w
theorem TbIn.below {T : Tb} {A : TbA} {w w' : World} (h : TbIn T A w) (hW : Below w.heap.size w w') : TbIn T A w' :=
  ⟨h.l1.below hW, h.l2.below hW, h.l3.below hW, h.l4.below hW, h.l5.below hW, h.l6.below hW⟩
structure TbSz (T : Tb) : Prop where
  s1 : T.ncl + 3 ≤ 17592186044416
  s2 : T.nlb + 3 ≤ 17592186044416
  s3 : T.nbs + 3 ≤ 17592186044416
  s4 : T.ndf + 3 ≤ 17592186044416
  s5 : T.nck + 3 ≤ 17592186044416
  s6 : T.nnx + 3 ≤ 17592186044416
structure TbAt (b : Nat) (T : Tb) (A : TbA) (w : World) : Prop where
  c0 : w.cell? ⟨b, 0, none⟩ = some (.int .i64 T.rules)
  c1 : w.cell? ⟨b, 1, none⟩ = some (.slice A.a1 T.ncl A.c1)
  c2 : w.cell? ⟨b, 2, none⟩ = some (.slice A.a2 T.nlb A.c2)
  c3 : w.cell? ⟨b, 3, none⟩ = some (.slice A.a3 T.nbs A.c3)
  c4 : w.cell? ⟨b, 4, none⟩ = some (.slice A.a4 T.ndf A.c4)
  c5 : w.cell? ⟨b, 5, none⟩ = some (.slice A.a5 T.nck A.c5)
  c6 : w.cell? ⟨b, 6, none⟩ = some (.slice A.a6 T.nnx A.c6)
theorem TbAt.below {b : Nat} {T : Tb} {A : TbA} {w w' : World} (h : TbAt b T A w) (hW : Below w.heap.size w w') : TbAt b T A w' := by
  have hb := World.block_lt_of_cell? w _ h.c0
  have e : ∀ k, w'.cell? ⟨b, k, none⟩ = w.cell? ⟨b, k, none⟩ := fun k => hW.cell (p := ⟨b, k, none⟩) hb
  exact ⟨by rw [e]; exact h.c0, by rw [e]; exact h.c1, by rw [e]; exact h.c2, by rw [e]; exact h.c3, by rw [e]; exact h.c4, by rw [e]; exact h.c5, by rw [e]; exact h.c6⟩
theorem TbAt.boxed (T : Tb) (A : TbA) (w : World) (t : TypeId) : TbAt w.heap.size T A (w.alloc (.cells (A.cells T) t)) := by
  refine ⟨?_, ?_, ?_, ?_, ?_, ?_, ?_⟩ <;> (rw [World.cell?_alloc_new]; rfl)
theorem TbAt.lt {b : Nat} {T : Tb} {A : TbA} {w : World} (h : TbAt b T A w) : b < w.heap.size := World.block_lt_of_cell? w _ h.c0
/-- A cell is as it must be. -/
def CellOK (T : Tb) (k : Nat) : Prop :=
  (T.ck k = -1 ∧ T.nx k = -1) ∨ ((0 ≤ T.ck k ∧ T.ck k < T.nlb) ∧ (-1 ≤ T.nx k ∧ T.nx k < T.nlb) ∧ 0 ≤ (k : Int) - T.bs (T.ck k).toNat ∧ (k : Int) - T.bs (T.ck k).toNat < cls T.cl T.ncl)
/-- Tables are sound. -/
structure Snd (T : Tb) : Prop where
  hd : Hd T.rules T.cl T.ncl T.lb T.nlb
  e3 : T.nbs = T.nlb
  e4 : T.ndf = T.nlb
  e6 : T.nnx = T.nck
  e5 : T.nck ≤ 24576
  b3 : ∀ i, i < T.nlb → 0 ≤ T.bs i ∧ T.bs i ≤ T.nck
  b4 : ∀ i, i < T.nlb → -1 ≤ T.df i ∧ T.df i < i
  cs : ∀ k, k < T.nck → CellOK T k
  la : T.nck = 0 ∨ T.ck (T.nck - 1) ≠ -1
/-- It answers whether P, and leaves what was there. -/
def BPostB (P : Prop) (w : World) (e : Ending) (w' : World) : Prop := ∃ b, e = .returned (.bool b) ∧ (b = true ↔ P) ∧ Below w.heap.size w w'
theorem BPostB.t {P : Prop} {w w' : World} (h : P) (hW : Below w.heap.size w w') : BPostB P w (.returned (.bool true)) w' := ⟨true, rfl, by simpa using h, hW⟩
theorem BPostB.f {P : Prop} {w w' : World} (h : ¬ P) (hW : Below w.heap.size w w') : BPostB P w (.returned (.bool false)) w' := ⟨false, rfl, by simpa using h, hW⟩
theorem bel_box (w : World) (o : Obj) : Below w.heap.size w (w.alloc o) := (Below.refl _ _).alloc (Nat.le_refl _) o

end Go.Proofs.Ytoaaklhpmhjhkab
