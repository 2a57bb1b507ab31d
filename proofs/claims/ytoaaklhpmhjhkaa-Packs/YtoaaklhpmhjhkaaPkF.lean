/-
  The program's Tables: what it has at hand.
-/
import Derived.Test.YtoaaklhpmhjhkaaPkD
import Derived.Test.YtoaaklhpmhjhkaaPkE
import Derived.Test.YtoaaklhpmhjhkaaLdG
namespace Go.Proofs.Ytoaaklhpmhjhkaa
open Go.RowKit
open Bm

/-- The packed rows of a machine. -/
def Mc.st (M : Mc) : Pk.St := Pk.run M.nx M.k M.nlb
/-- The tables of a machine. -/
def packT (M : Mc) : Tb where
  rules := M.rules
  cl := M.cl
  ncl := M.ncl
  lb := M.lb
  nlb := M.nlb
  bs := fun i => M.st.bs.getD i 0
  nbs := M.st.bs.length
  df := fun i => M.st.df.getD i 0
  ndf := M.st.df.length
  ck := fun i => M.st.ck.getD i 0
  nck := M.st.ck.length
  nx := fun i => M.st.nt.getD i 0
  nnx := M.st.nt.length
/-- Blocks of lists that are not the same. -/
def Ne2 (u v : Value) : Prop := ∀ k, u.ownBlock = some k → v.ownBlock ≠ some k
theorem Ne2.symm {u v : Value} (h : Ne2 u v) : Ne2 v u := fun k h1 h2 => h k h2 h1
/-- What Tables has at hand: the result at rb, the tables at tb, the copies at g1 and g2, the rows at ob, the cells at cb; the lists lie from base on. -/
structure PS (w : World) (M : Mc) (A : McA) (rb tb g1 g2 ob cb base : Nat) (ck nt bs df : List Int) (vb vd vc vn : Value) (W : World) : Prop where
  z : W.there rb 0 7
  t : TC tb [.int .i64 M.rules, .slice (some ⟨g1, 0, none⟩) M.ncl M.ncl, .slice (some ⟨g2, 0, none⟩) M.nlb M.nlb, vb, vd, .slice none 0 0, .slice none 0 0] W
  k1 : NRow g1 M.cl M.ncl W
  k2 : NRow g2 M.lb M.nlb W
  r0 : TC ob [.int .i64 M.k, .slice A.a3 M.nnx A.c3] W
  c : Cs base cb vc vn ck nt W
  b : OwnL base vb bs W
  d : OwnL base vd df W
  bd : Ne2 vb vd
  bc : Ne2 vb vc
  bn : Ne2 vb vn
  dc : Ne2 vd vc
  dn : Ne2 vd vn
  bel : Below w.heap.size w W
  bw : base ≤ W.heap.size
  o0 : w.heap.size ≤ rb
  o1 : rb < tb
  o2 : tb < g1
  o3 : g1 < g2
  o4 : g2 < ob
  o5 : ob < cb
theorem there_lt {W : World} {b o n : Nat} (h : W.there b o n) (hn : 0 < n) : b < W.heap.size := by
  have h0 := (h 0 hn).1
  obtain ⟨v, hv⟩ := Option.isSome_iff_exists.1 h0
  exact World.block_lt_of_cell? W _ hv
theorem there_blk {W W' : World} {b o n : Nat} (h : W.there b o n) (hk : W'.heap[b]? = W.heap[b]?) : W'.there b o n := fun j hj => by
  rw [World.cell?_of_block (w := W) (w' := W') (a := ⟨b, o + j, none⟩) hk, World.frozen?_of_block (w := W) (w' := W') (a := ⟨b, o + j, none⟩) hk]
  exact h j hj
/-- All blocks below base but tb and cb are kept, and the lists are as told. -/
theorem PS.move {w : World} {M : Mc} {A : McA} {rb tb g1 g2 ob cb base : Nat} {ck nt bs df ck' nt' bs' df' : List Int} {vb vd vc vn vb' vd' vc' vn' : Value} {W W' : World} (h : PS w M A rb tb g1 g2 ob cb base ck nt bs df vb vd vc vn W)
    (hk : ∀ q, q < base → q ≠ tb → q ≠ cb → W'.heap[q]? = W.heap[q]?) (hz : W.heap.size ≤ W'.heap.size)
    (ht : TC tb [.int .i64 M.rules, .slice (some ⟨g1, 0, none⟩) M.ncl M.ncl, .slice (some ⟨g2, 0, none⟩) M.nlb M.nlb, vb', vd', .slice none 0 0, .slice none 0 0] W')
    (hc : Cs base cb vc' vn' ck' nt' W') (hb : OwnL base vb' bs' W') (hd : OwnL base vd' df' W') (bd : Ne2 vb' vd') (bc : Ne2 vb' vc') (bn : Ne2 vb' vn') (dc : Ne2 vd' vc') (dn : Ne2 vd' vn') (hB : Below w.heap.size w W') :
    PS w M A rb tb g1 g2 ob cb base ck' nt' bs' df' vb' vd' vc' vn' W' := by
  have h0 := h.o0
  have h1 := h.o1
  have h2 := h.o2
  have h3 := h.o3
  have h4 := h.o4
  have h5 := h.o5
  have h6 := h.c.lt
  exact ⟨there_blk h.z (hk _ (by omega) (by omega) (by omega)), ht, h.k1.block (hk _ (by omega) (by omega) (by omega)), h.k2.block (hk _ (by omega) (by omega) (by omega)),
    h.r0.block (hk _ (by omega) (by omega) (by omega)), hc, hb, hd, bd, bc, bn, dc, dn, hB, Nat.le_trans h.bw hz, h0, h1, h2, h3, h4, h5⟩
theorem PS.below {w : World} {M : Mc} {A : McA} {rb tb g1 g2 ob cb base : Nat} {ck nt bs df : List Int} {vb vd vc vn : Value} {W W' : World} (h : PS w M A rb tb g1 g2 ob cb base ck nt bs df vb vd vc vn W) (hW : Below W.heap.size W W') :
    PS w M A rb tb g1 g2 ob cb base ck nt bs df vb vd vc vn W' :=
  h.move (fun q hq _ _ => hW.block q (Nat.lt_of_lt_of_le hq h.bw)) hW.size (h.t.below hW) (h.c.below hW) (h.b.below hW) (h.d.below hW) h.bd h.bc h.bn h.dc h.dn (h.bel.trans (hW.mono h.bel.size))
theorem PS.rw {w : World} {M : Mc} {A : McA} {rb tb g1 g2 ob cb base : Nat} {ck nt bs df : List Int} {vb vd vc vn : Value} {W : World} (h : PS w M A rb tb g1 g2 ob cb base ck nt bs df vb vd vc vn W) (hI : McIn M A w) : Rw ob M.k A.a3 M.nnx A.c3 M.nx W :=
  ⟨(h.r0 0 _ rfl).1, (h.r0 1 _ rfl).1, hI.l3.below h.bel⟩
theorem PS.put {w : World} {M : Mc} {A : McA} {rb tb g1 g2 ob cb base : Nat} {ck nt bs df ck' nt' : List Int} {vb vd vc vn vc' vn' : Value} {W W' : World} (h : PS w M A rb tb g1 g2 ob cb base ck nt bs df vb vd vc vn W)
    (hc : Cs base cb vc' vn' ck' nt' W') (hp : Putted cb vc vn vc' vn' W W') : PS w M A rb tb g1 g2 ob cb base ck' nt' bs df vb vd vc' vn' W' := by
  have h5 := h.o5
  have hbw := h.bw
  have hcb := h.c.c.blk
  have hnb := h.c.n.blk
  have low : ∀ q, q < base → q ≠ cb → W'.heap[q]? = W.heap[q]? := fun q hq h0 => hp.kept q (by omega) h0 (fun e => by have := (hcb q e).1; omega) (fun e => by have := (hnb q e).1; omega)
  have fresh : ∀ (u : Value) (l : List Int), OwnL base u l W → Ne2 u vc → Ne2 u vn → OwnL base u l W' ∧ Ne2 u vc' ∧ Ne2 u vn' := fun u l hu n1 n2 => by
    refine ⟨hu.keep (fun k hk => hp.kept k (hu.blk k hk).2 (by have := (hu.blk k hk).1; have := h.c.lt; omega) (n1 k hk) (n2 k hk)), fun k hk e => ?_, fun k hk e => ?_⟩
    · rcases hp.oc k e with e | e
      · exact n1 k hk e
      · have := (hu.blk k hk).2; omega
    · rcases hp.on k e with e | e
      · exact n2 k hk e
      · have := (hu.blk k hk).2; omega
  obtain ⟨b1, b2, b3⟩ := fresh vb bs h.b h.bc h.bn
  obtain ⟨d1, d2, d3⟩ := fresh vd df h.d h.dc h.dn
  have h0 := h.o0
  have h1 := h.o1
  have h2 := h.o2
  have h3 := h.o3
  have h4 := h.o4
  have hlt := h.c.lt
  exact h.move (fun q hq _ hn => low q hq hn) hp.bel.size (h.t.block (low _ (by omega) (by omega))) hc b1 d1 h.bd b2 b3 d2 d3 (h.bel.trans (hp.bel.mono (by omega)))
/-- append to Def, and to Base. -/
theorem PS.ready {w : World} {M : Mc} {A : McA} {rb tb g1 g2 ob cb base : Nat} {ck nt bs df : List Int} {vb vd vc vn : Value} {W : World} (x : Int) (h : PS w M A rb tb g1 g2 ob cb base ck nt bs df vb vd vc vn W) :
    OwnL base vd df (W.alloc (.cells #[.int .i64 x] 3)) ∧ OwnL base vb bs (W.alloc (.cells #[.int .i64 x] 3)) ∧ (W.alloc (.cells #[.int .i64 x] 3)).cell? ⟨W.heap.size, 0, none⟩ = some (.int .i64 x) ∧ base ≤ (W.alloc (.cells #[.int .i64 x] 3)).heap.size ∧
    (∀ w5, (W.alloc (.cells #[.int .i64 x] 3)).grownBy w5 vd.ownBlock → w5.cell? ⟨tb, 4, none⟩ = some vd ∧ w5.frozen? ⟨tb, 4, none⟩ = false) ∧
    (∀ w5, (W.alloc (.cells #[.int .i64 x] 3)).grownBy w5 vb.ownBlock → w5.cell? ⟨tb, 3, none⟩ = some vb ∧ w5.frozen? ⟨tb, 3, none⟩ = false) := by
  have hx := box_bel W (.cells #[.int .i64 x] 3)
  have h1 := h.o1
  have h2 := h.o2
  have h3 := h.o3
  have h4 := h.o4
  have h5 := h.o5
  have h6 := h.c.lt
  refine ⟨h.d.below hx, h.b.below hx, by rw [World.cell?_alloc_new]; rfl, Nat.le_trans h.bw hx.size, fun w5 hg => ?_, fun w5 hg => ?_⟩
  · exact ((h.t.below hx).block (hg.block _ (Nat.lt_of_lt_of_le h.t.lt hx.size) (fun e => by have := (h.d.blk _ e.symm).1; omega))) 4 _ rfl
  · exact ((h.t.below hx).block (hg.block _ (Nat.lt_of_lt_of_le h.t.lt hx.size) (fun e => by have := (h.b.blk _ e.symm).1; omega))) 3 _ rfl
theorem ne_push {u v v' : Value} {g n cap : Nat} {W W1 : World} (hv' : v' = .slice (some ⟨g, 0, none⟩) n cap) (hgb : v.ownBlock = some g ∨ g = W1.heap.size) (hz : W.heap.size ≤ W1.heap.size) (hu : ∀ k, u.ownBlock = some k → k < W.heap.size) (hn : Ne2 v u) : Ne2 v' u := by
  intro k hk e
  rw [hv'] at hk
  have e2 : g = k := Option.some.inj hk
  rcases hgb with h1 | h1
  · rw [e2] at h1; exact hn k h1 e
  · have := hu k e; omega
theorem PS.pushD {w : World} {M : Mc} {A : McA} {rb tb g1 g2 ob cb base : Nat} {ck nt bs df : List Int} {vb vd vc vn : Value} {W W1 w5 : World} {x : Int} {g cap : Nat} {o : Obj} (h : PS w M A rb tb g1 g2 ob cb base ck nt bs df vb vd vc vn W) (hW1 : W1 = W.alloc o)
    (h5 : OwnL base (.slice (some ⟨g, 0, none⟩) (df.length + 1) cap) (df ++ [x]) w5) (hg : W1.grownBy w5 vd.ownBlock) (hgb : vd.ownBlock = some g ∨ g = W1.heap.size) :
    PS w M A rb tb g1 g2 ob cb base ck nt bs (df ++ [x]) vb (.slice (some ⟨g, 0, none⟩) (df.length + 1) cap) vc vn (w5.setCell ⟨tb, 4, none⟩ (.slice (some ⟨g, 0, none⟩) (df.length + 1) cap)) := by
  have x1 : Below W.heap.size W W1 := by rw [hW1]; exact box_bel _ _
  have hz1 : W1.heap.size = W.heap.size + 1 := by rw [hW1]; simp
  have k1 := h.below x1
  have h0 := h.o0
  have h1 := h.o1
  have h2 := h.o2
  have h3 := h.o3
  have h4 := h.o4
  have h6 := h.o5
  have h7 := h.c.lt
  have h8 := h.bw
  have hgc : base ≤ g := (h5.blk g rfl).1
  have hdb := h.d.blk
  have hb : ∀ k, k ≠ tb → (w5.setCell ⟨tb, 4, none⟩ (.slice (some ⟨g, 0, none⟩) (df.length + 1) cap)).heap[k]? = w5.heap[k]? := fun k hk => Below.heap_setCell w5 ⟨tb, 4, none⟩ _ k (fun e => hk e)
  have kp : ∀ q, q < W1.heap.size → q ≠ tb → vd.ownBlock ≠ some q → (w5.setCell ⟨tb, 4, none⟩ (.slice (some ⟨g, 0, none⟩) (df.length + 1) cap)).heap[q]? = W1.heap[q]? := fun q hq h0 h1 => by
    rw [hb q h0, hg.block q hq (fun e => h1 e.symm)]
  have kl : ∀ (u : Value) (l : List Int), OwnL base u l W1 → Ne2 vd u → OwnL base u l (w5.setCell ⟨tb, 4, none⟩ (.slice (some ⟨g, 0, none⟩) (df.length + 1) cap)) := fun u l hu hn => hu.keep (fun k hk => kp k (hu.blk k hk).2 (by have := (hu.blk k hk).1; omega) (fun e => hn k e hk))
  refine k1.move (fun q hq hq1 _ => kp q (by omega) hq1 (fun e => by have := (hdb q e).1; omega)) (by have := hg.size; simpa [World.setCell] using this) ?_ ?_ (kl vb bs k1.b h.bd.symm) (h5.keep (fun k hk => hb k (by cases hk; show g ≠ _; omega))) ?_ h.bc h.bn ?_ ?_ ?_
  · exact (k1.t.block (hg.block _ (by omega) (fun e => by have := (hdb _ e.symm).1; omega))).set 4 (by simp) _
  · refine k1.c.keep (kp cb (by omega) (by omega) (fun e => by have := (hdb _ e).1; omega)) (fun k hk => kp k (k1.c.c.blk k hk).2 (by have := (k1.c.c.blk k hk).1; omega) (fun e => h.dc k e hk)) (fun k hk => kp k (k1.c.n.blk k hk).2 (by have := (k1.c.n.blk k hk).1; omega) (fun e => h.dn k e hk))
  · exact (ne_push rfl hgb (by omega) (fun k hk => (h.b.blk k hk).2) h.bd.symm).symm
  · exact ne_push rfl hgb (by omega) (fun k hk => (h.c.c.blk k hk).2) h.dc
  · exact ne_push rfl hgb (by omega) (fun k hk => (h.c.n.blk k hk).2) h.dn
  · exact (k1.bel.grown hg (by omega) (fun q hq => by have := (hdb q hq).1; omega)).setCell (p := ⟨tb, 4, none⟩) (show w.heap.size ≤ tb by omega) _
theorem PS.pushB {w : World} {M : Mc} {A : McA} {rb tb g1 g2 ob cb base : Nat} {ck nt bs df : List Int} {vb vd vc vn : Value} {W W1 w5 : World} {x : Int} {g cap : Nat} {o : Obj} (h : PS w M A rb tb g1 g2 ob cb base ck nt bs df vb vd vc vn W) (hW1 : W1 = W.alloc o)
    (h5 : OwnL base (.slice (some ⟨g, 0, none⟩) (bs.length + 1) cap) (bs ++ [x]) w5) (hg : W1.grownBy w5 vb.ownBlock) (hgb : vb.ownBlock = some g ∨ g = W1.heap.size) :
    PS w M A rb tb g1 g2 ob cb base ck nt (bs ++ [x]) df (.slice (some ⟨g, 0, none⟩) (bs.length + 1) cap) vd vc vn (w5.setCell ⟨tb, 3, none⟩ (.slice (some ⟨g, 0, none⟩) (bs.length + 1) cap)) := by
  have x1 : Below W.heap.size W W1 := by rw [hW1]; exact box_bel _ _
  have hz1 : W1.heap.size = W.heap.size + 1 := by rw [hW1]; simp
  have k1 := h.below x1
  have h0 := h.o0
  have h1 := h.o1
  have h2 := h.o2
  have h3 := h.o3
  have h4 := h.o4
  have h6 := h.o5
  have h7 := h.c.lt
  have h8 := h.bw
  have hgc : base ≤ g := (h5.blk g rfl).1
  have hdb := h.b.blk
  have hb : ∀ k, k ≠ tb → (w5.setCell ⟨tb, 3, none⟩ (.slice (some ⟨g, 0, none⟩) (bs.length + 1) cap)).heap[k]? = w5.heap[k]? := fun k hk => Below.heap_setCell w5 ⟨tb, 3, none⟩ _ k (fun e => hk e)
  have kp : ∀ q, q < W1.heap.size → q ≠ tb → vb.ownBlock ≠ some q → (w5.setCell ⟨tb, 3, none⟩ (.slice (some ⟨g, 0, none⟩) (bs.length + 1) cap)).heap[q]? = W1.heap[q]? := fun q hq h0 h1 => by
    rw [hb q h0, hg.block q hq (fun e => h1 e.symm)]
  have kl : ∀ (u : Value) (l : List Int), OwnL base u l W1 → Ne2 vb u → OwnL base u l (w5.setCell ⟨tb, 3, none⟩ (.slice (some ⟨g, 0, none⟩) (bs.length + 1) cap)) := fun u l hu hn => hu.keep (fun k hk => kp k (hu.blk k hk).2 (by have := (hu.blk k hk).1; omega) (fun e => hn k e hk))
  refine k1.move (fun q hq hq1 _ => kp q (by omega) hq1 (fun e => by have := (hdb q e).1; omega)) (by have := hg.size; simpa [World.setCell] using this) ?_ ?_ (h5.keep (fun k hk => hb k (by cases hk; show g ≠ _; omega))) (kl vd df k1.d h.bd) ?_ ?_ ?_ h.dc h.dn ?_
  · exact (k1.t.block (hg.block _ (by omega) (fun e => by have := (hdb _ e.symm).1; omega))).set 3 (by simp) _
  · refine k1.c.keep (kp cb (by omega) (by omega) (fun e => by have := (hdb _ e).1; omega)) (fun k hk => kp k (k1.c.c.blk k hk).2 (by have := (k1.c.c.blk k hk).1; omega) (fun e => h.bc k e hk)) (fun k hk => kp k (k1.c.n.blk k hk).2 (by have := (k1.c.n.blk k hk).1; omega) (fun e => h.bn k e hk))
  · exact ne_push rfl hgb (by omega) (fun k hk => (h.d.blk k hk).2) h.bd
  · exact ne_push rfl hgb (by omega) (fun k hk => (h.c.c.blk k hk).2) h.bc
  · exact ne_push rfl hgb (by omega) (fun k hk => (h.c.n.blk k hk).2) h.bn
  · exact (k1.bel.grown hg (by omega) (fun q hq => by have := (hdb q hq).1; omega)).setCell (p := ⟨tb, 3, none⟩) (show w.heap.size ≤ tb by omega) _
theorem lay_take (nx : Nat → Int) (n s b : Nat) (l : List Nat) (p : List Int × List Int) (i c : Nat) (h : l[i]? = some c) :
    Pk.lay nx n s b (l.take (i + 1)) p = (Pk.put (Pk.lay nx n s b (l.take i) p).1 (b + c) s, Pk.put (Pk.lay nx n s b (l.take i) p).2 (b + c) (Pk.ld nx n s c)) := by
  rw [List.take_add_one, h, Pk.lay_append]; rfl
end Go.Proofs.Ytoaaklhpmhjhkaa
