/-
  The reference's Pack: what it has at hand.
-/
import Derived.Test.YtoaaklhpmhjhkaaPkI
namespace Go.Proofs.Ytoaaklhpmhjhkaa
open Go.RowKit
open Bm

def upd {α : Type} (f : Nat → α) (k : Nat) (v : α) : Nat → α := fun j => if j = k then v else f j
theorem upd_at {α : Type} (f : Nat → α) (k : Nat) (v : α) : upd f k v k = v := if_pos rfl
theorem upd_ne {α : Type} (f : Nat → α) {k j : Nat} (v : α) (h : j ≠ k) : upd f k v j = f j := if_neg h
/-- Four lists, by their places. -/
def L4 (bs df ck nt : List Int) : Nat → List Int := fun k => if k = 3 then bs else if k = 4 then df else if k = 5 then ck else if k = 6 then nt else []
theorem L4_nil : L4 [] [] [] [] = fun _ => [] := by funext k; simp [L4]
theorem L4_3 (a b c d x : List Int) : upd (L4 a b c d) 3 x = L4 x b c d := by
  funext k; unfold upd L4; by_cases h : k = 3 <;> simp [h]
theorem L4_4 (a b c d x : List Int) : upd (L4 a b c d) 4 x = L4 a x c d := by
  funext k; unfold upd L4; by_cases h : k = 4 <;> simp [h]
theorem L4_5 (a b c d x : List Int) : upd (L4 a b c d) 5 x = L4 a b x d := by
  funext k; unfold upd L4; by_cases h : k = 5 <;> simp [h]
theorem L4_6 (a b c d x : List Int) : upd (L4 a b c d) 6 x = L4 a b c x := by
  funext k; unfold upd L4; by_cases h : k = 6 <;> simp [h]
/-- The tables, as cells. -/
def prC (M : Mc) (g1 g2 : Nat) (V : Nat → Value) : List Value := [.int .i64 M.rules, .slice (some ⟨g1, 0, none⟩) M.ncl M.ncl, .slice (some ⟨g2, 0, none⟩) M.nlb M.nlb, V 3, V 4, V 5, V 6]
theorem prC_set (M : Mc) (g1 g2 : Nat) (V : Nat → Value) (k : Nat) (h1 : 3 ≤ k) (h2 : k ≤ 6) (v : Value) : (prC M g1 g2 V).set k v = prC M g1 g2 (upd V k v) := by
  have : k = 3 ∨ k = 4 ∨ k = 5 ∨ k = 6 := by omega
  rcases this with rfl | rfl | rfl | rfl <;> simp [prC, upd]
theorem prC_at (M : Mc) (g1 g2 : Nat) (V : Nat → Value) (k : Nat) (h1 : 3 ≤ k) (h2 : k ≤ 6) : (prC M g1 g2 V)[k]? = some (V k) := by
  have : k = 3 ∨ k = 4 ∨ k = 5 ∨ k = 6 := by omega
  rcases this with rfl | rfl | rfl | rfl <;> rfl
/-- What the reference's Pack has at hand: the machine at mb, the result at rb, the tables at tb, the copies at g1 and g2; the lists lie from base on. -/
structure PR (w : World) (M : Mc) (A : McA) (mb rb tb g1 g2 base : Nat) (L : Nat → List Int) (V : Nat → Value) (W : World) : Prop where
  m : McAt mb M A W
  z : W.there rb 0 7
  t : TC tb (prC M g1 g2 V) W
  k1 : NRow g1 M.cl M.ncl W
  k2 : NRow g2 M.lb M.nlb W
  o : ∀ k, 3 ≤ k → k ≤ 6 → OwnL base (V k) (L k) W
  ne : ∀ j k, 3 ≤ j → j ≤ 6 → 3 ≤ k → k ≤ 6 → j ≠ k → Ne2 (V j) (V k)
  bel : Below w.heap.size w W
  bw : base ≤ W.heap.size
  lt : mb < base ∧ rb < base ∧ tb < base ∧ g1 < base ∧ g2 < base
  ge : w.heap.size ≤ rb ∧ w.heap.size ≤ tb
  gg : w.heap.size ≤ g1 ∧ w.heap.size ≤ g2 ∧ w.heap.size ≤ base
  d : mb ≠ tb ∧ rb ≠ tb ∧ g1 ≠ tb ∧ g2 ≠ tb ∧ mb ≠ rb ∧ g1 ≠ rb ∧ g2 ≠ rb
theorem PR.move {w : World} {M : Mc} {A : McA} {mb rb tb g1 g2 base : Nat} {L L' : Nat → List Int} {V V' : Nat → Value} {W W' : World} (h : PR w M A mb rb tb g1 g2 base L V W)
    (hk : ∀ q, q < base → q ≠ tb → W'.heap[q]? = W.heap[q]?) (hz : W.heap.size ≤ W'.heap.size) (ht : TC tb (prC M g1 g2 V') W')
    (ho : ∀ k, 3 ≤ k → k ≤ 6 → OwnL base (V' k) (L' k) W') (hne : ∀ j k, 3 ≤ j → j ≤ 6 → 3 ≤ k → k ≤ 6 → j ≠ k → Ne2 (V' j) (V' k)) (hB : Below w.heap.size w W') :
    PR w M A mb rb tb g1 g2 base L' V' W' := by
  obtain ⟨l1, l2, l3, l4, l5⟩ := h.lt
  obtain ⟨d1, d2, d3, d4, _, _, _⟩ := h.d
  exact ⟨h.m.blk (hk _ l1 d1), there_blk h.z (hk _ l2 d2), ht, h.k1.block (hk _ l4 d3), h.k2.block (hk _ l5 d4), ho, hne, hB, Nat.le_trans h.bw hz, h.lt, h.ge, h.gg, h.d⟩
theorem PR.below {w : World} {M : Mc} {A : McA} {mb rb tb g1 g2 base : Nat} {L : Nat → List Int} {V : Nat → Value} {W W' : World} (h : PR w M A mb rb tb g1 g2 base L V W) (hW : Below W.heap.size W W') : PR w M A mb rb tb g1 g2 base L V W' :=
  h.move (fun q hq _ => hW.block q (Nat.lt_of_lt_of_le hq h.bw)) hW.size (h.t.below hW) (fun k h1 h2 => (h.o k h1 h2).below hW) h.ne (h.bel.trans (hW.mono h.bel.size))
theorem PR.ready {w : World} {M : Mc} {A : McA} {mb rb tb g1 g2 base : Nat} {L : Nat → List Int} {V : Nat → Value} {W : World} (x : Int) (k : Nat) (h1 : 3 ≤ k) (h2 : k ≤ 6) (h : PR w M A mb rb tb g1 g2 base L V W) :
    OwnL base (V k) (L k) (W.alloc (.cells #[.int .i64 x] 3)) ∧ (W.alloc (.cells #[.int .i64 x] 3)).cell? ⟨W.heap.size, 0, none⟩ = some (.int .i64 x) ∧ base ≤ (W.alloc (.cells #[.int .i64 x] 3)).heap.size ∧
    ∀ w5, (W.alloc (.cells #[.int .i64 x] 3)).grownBy w5 (V k).ownBlock → w5.cell? ⟨tb, k, none⟩ = some (V k) ∧ w5.frozen? ⟨tb, k, none⟩ = false := by
  have hx := box_bel W (.cells #[.int .i64 x] 3)
  have l3 := h.lt.2.2.1
  refine ⟨(h.o k h1 h2).below hx, by rw [World.cell?_alloc_new]; rfl, Nat.le_trans h.bw hx.size, fun w5 hg => ?_⟩
  have hb := h.bw
  have hz := hx.size
  exact ((h.t.below hx).block (hg.block _ (by omega) (fun e => by have := ((h.o k h1 h2).blk _ e.symm).1; omega))) k _ (prC_at M g1 g2 V k h1 h2)
theorem PR.push {w : World} {M : Mc} {A : McA} {mb rb tb g1 g2 base : Nat} {L : Nat → List Int} {V : Nat → Value} {W W1 w5 : World} {x : Int} {g cap : Nat} {ob : Obj} (k : Nat) (h1 : 3 ≤ k) (h2 : k ≤ 6) (h : PR w M A mb rb tb g1 g2 base L V W) (hW1 : W1 = W.alloc ob)
    (h5 : OwnL base (.slice (some ⟨g, 0, none⟩) ((L k).length + 1) cap) (L k ++ [x]) w5) (hg : W1.grownBy w5 (V k).ownBlock) (hgb : (V k).ownBlock = some g ∨ g = W1.heap.size) :
    PR w M A mb rb tb g1 g2 base (upd L k (L k ++ [x])) (upd V k (.slice (some ⟨g, 0, none⟩) ((L k).length + 1) cap)) (w5.setCell ⟨tb, k, none⟩ (.slice (some ⟨g, 0, none⟩) ((L k).length + 1) cap)) := by
  have x1 : Below W.heap.size W W1 := by rw [hW1]; exact box_bel _ _
  have hz1 : W1.heap.size = W.heap.size + 1 := by rw [hW1]; simp
  have k1 := h.below x1
  obtain ⟨l1, l2, l3, l4, l5⟩ := h.lt
  have hge := h.ge.2
  have h8 := h.bw
  have hgc : base ≤ g := (h5.blk g rfl).1
  have hdb := (h.o k h1 h2).blk
  have hb : ∀ q, q ≠ tb → (w5.setCell ⟨tb, k, none⟩ (.slice (some ⟨g, 0, none⟩) ((L k).length + 1) cap)).heap[q]? = w5.heap[q]? := fun q hq => Below.heap_setCell w5 ⟨tb, k, none⟩ _ q (fun e => hq e)
  have kp : ∀ q, q < W1.heap.size → q ≠ tb → (V k).ownBlock ≠ some q → (w5.setCell ⟨tb, k, none⟩ (.slice (some ⟨g, 0, none⟩) ((L k).length + 1) cap)).heap[q]? = W1.heap[q]? := fun q hq h0 h1 => by
    rw [hb q h0, hg.block q hq (fun e => h1 e.symm)]
  refine k1.move (fun q hq hq1 => kp q (by omega) hq1 (fun e => by have := (hdb q e).1; omega)) (by have := hg.size; simpa [World.setCell] using this) ?_ (fun j j1 j2 => ?_) (fun i j i1 i2 j1 j2 hij => ?_) ?_
  · rw [← prC_set M g1 g2 V k h1 h2]
    exact (k1.t.block (hg.block _ (by omega) (fun e => by have := (hdb _ e.symm).1; omega))).set k (by simp [prC]; omega) _
  · by_cases e : j = k
    · subst e
      rw [upd_at, upd_at]
      exact h5.keep (fun q hq => hb q (by cases hq; show g ≠ _; omega))
    · rw [upd_ne _ _ e, upd_ne _ _ e]
      have hj := k1.o j j1 j2
      exact hj.keep (fun q hq => kp q (hj.blk q hq).2 (by have := (hj.blk q hq).1; omega) (fun e2 => h.ne k j h1 h2 j1 j2 (fun x => e x.symm) q e2 hq))
  · have key : ∀ j, 3 ≤ j → j ≤ 6 → j ≠ k → Ne2 (.slice (some ⟨g, 0, none⟩) ((L k).length + 1) cap) (V j) := fun j j1 j2 hj => ne_push rfl hgb (by omega) (fun q hq => ((h.o j j1 j2).blk q hq).2) (h.ne k j h1 h2 j1 j2 (fun x => hj x.symm))
    by_cases e1 : i = k
    · subst e1
      rw [upd_at, upd_ne _ _ (fun x => hij x.symm)]
      exact key j j1 j2 (fun x => hij x.symm)
    · rw [upd_ne _ _ e1]
      by_cases e2 : j = k
      · subst e2
        rw [upd_at]
        exact (key i i1 i2 e1).symm
      · rw [upd_ne _ _ e2]
        exact h.ne i j i1 i2 j1 j2 hij
  · exact (k1.bel.grown hg (by omega) (fun q hq => by have := (hdb q hq).1; omega)).setCell (p := ⟨tb, k, none⟩) hge _
theorem PR.put {w : World} {M : Mc} {A : McA} {mb rb tb g1 g2 base : Nat} {L : Nat → List Int} {V : Nat → Value} {W : World} (k : Nat) (h1 : 3 ≤ k) (h2 : k ≤ 6) {g cap : Nat} (h : PR w M A mb rb tb g1 g2 base L V W) (hv : V k = .slice (some ⟨g, 0, none⟩) (L k).length cap) (q : Nat) (x : Int) :
    PR w M A mb rb tb g1 g2 base (upd L k ((L k).set q x)) V (W.setCell ⟨g, q, none⟩ (.int .i64 x)) := by
  have hO := h.o k h1 h2
  rw [hv] at hO
  have hg := (hO.blk g rfl).1
  obtain ⟨l1, l2, l3, l4, l5⟩ := h.lt
  have hge := h.ge.2
  have hb : ∀ r, r ≠ g → (W.setCell ⟨g, q, none⟩ (.int .i64 x)).heap[r]? = W.heap[r]? := fun r hr => Below.heap_setCell W ⟨g, q, none⟩ _ r (fun e => hr e)
  refine h.move (fun r hr _ => hb r (by omega)) (by simp [World.setCell]) (h.t.block (hb _ (by omega))) (fun j j1 j2 => ?_) h.ne (h.bel.setCell (p := ⟨g, q, none⟩) (show w.heap.size ≤ g by omega) _)
  by_cases e : j = k
  · subst e
    rw [upd_at, hv]
    exact hO.set_ q x
  · rw [upd_ne _ _ e]
    exact (h.o j j1 j2).keep (fun r hr => hb r (fun e2 => h.ne k j h1 h2 j1 j2 (fun x => e x.symm) g (by rw [hv]; rfl) (by rw [← e2]; exact hr)))
theorem Bm.TC.laid {t : Nat} {L : List Value} {w : World} (hth : w.there t 0 L.length) : TC t L (w.setCells t 0 L) := fun k v hv => by
  have h1 := World.rangeAt_setCells_same w t 0 L hth k v hv
  have hk : k < L.length := (List.getElem?_eq_some_iff.1 hv).1
  have h2 := (hth k hk).2
  rw [Nat.zero_add] at h1 h2
  refine ⟨h1, ?_⟩
  rw [World.frozen?_setCells]; exact h2
/-- A list of ours that is none of the four. -/
structure Oth (B : Nat) (v : Value) (l : List Int) (V : Nat → Value) (W : World) : Prop where
  o : OwnL B v l W
  ne : ∀ k, 3 ≤ k → k ≤ 6 → Ne2 v (V k)
theorem Oth.below {B : Nat} {v : Value} {l : List Int} {V : Nat → Value} {W W' : World} (h : Oth B v l V W) (hW : Below W.heap.size W W') : Oth B v l V W' := ⟨h.o.below hW, h.ne⟩
theorem Oth.push {B : Nat} {v : Value} {l : List Int} {V : Nat → Value} {W W1 w5 : World} {tb k g n cap : Nat} {ob : Obj} {u : Value} (h : Oth B v l V W) (k1 : 3 ≤ k) (k2 : k ≤ 6) (hW1 : W1 = W.alloc ob) (hg : W1.grownBy w5 (V k).ownBlock) (hgb : (V k).ownBlock = some g ∨ g = W1.heap.size) (hB : tb < B) :
    Oth B v l (upd V k (.slice (some ⟨g, 0, none⟩) n cap)) (w5.setCell ⟨tb, k, none⟩ u) := by
  have x1 : Below W.heap.size W W1 := by rw [hW1]; exact box_bel _ _
  have hz1 : W1.heap.size = W.heap.size + 1 := by rw [hW1]; simp
  refine ⟨((h.o.below x1).grown hg (fun q hq => fun e => h.ne k k1 k2 q hq e)).keep (fun q hq => Below.heap_setCell w5 ⟨tb, k, none⟩ _ q (fun e => by have := (h.o.blk q hq).1; have e2 : q = tb := e; omega)), fun j j1 j2 => ?_⟩
  by_cases e : j = k
  · subst e
    rw [upd_at]
    intro q hq e2
    have e3 : g = q := Option.some.inj e2
    rcases hgb with h1 | h1
    · rw [e3] at h1; exact h.ne j j1 j2 q hq h1
    · have := (h.o.blk q hq).2; omega
  · rw [upd_ne _ _ e]; exact h.ne j j1 j2
theorem Oth.put {B : Nat} {v : Value} {l : List Int} {V : Nat → Value} {W : World} {k g q n cap : Nat} {u : Value} (h : Oth B v l V W) (k1 : 3 ≤ k) (k2 : k ≤ 6) (hv : V k = .slice (some ⟨g, 0, none⟩) n cap) : Oth B v l V (W.setCell ⟨g, q, none⟩ u) :=
  ⟨h.o.keep (fun r hr => Below.heap_setCell W ⟨g, q, none⟩ _ r (fun e => h.ne k k1 k2 r hr (by rw [hv]; show some g = some r; rw [show r = g from e]))), h.ne⟩
/-- How it begins. -/
theorem PR.init {w w2 W : World} {M : Mc} {A : McA} {mb rb tb g1 g2 : Nat} (hm : McAt mb M A w2) (hz : w2.there rb 0 7) (hmb : mb < w2.heap.size) (hrb : rb < w2.heap.size) (hmr : mb ≠ rb) (hwr : w.heap.size ≤ rb) (hw2 : Below w.heap.size w w2)
    (hB : Below w2.heap.size w2 W) (k1 : NRow g1 M.cl M.ncl W) (k2 : NRow g2 M.lb M.nlb W) (ht : W.there tb 0 7) (t1 : w2.heap.size ≤ tb) (t2 : tb < W.heap.size) (a1 : w2.heap.size ≤ g1) (a2 : g1 < W.heap.size) (b1 : w2.heap.size ≤ g2) (b2 : g2 < W.heap.size) (n1 : g1 ≠ tb) (n2 : g2 ≠ tb) :
    PR w M A mb rb tb g1 g2 W.heap.size (fun _ => []) (fun _ => .slice none 0 0) (W.setCells tb 0 (prC M g1 g2 (fun _ => .slice none 0 0))) := by
  have hg := setCells_grown tb (prC M g1 g2 (fun _ => .slice none 0 0)) 0 W
  have hk : ∀ q, q < W.heap.size → q ≠ tb → (W.setCells tb 0 (prC M g1 g2 (fun _ => .slice none 0 0))).heap[q]? = W.heap[q]? := fun q hq hn => hg.block q hq (fun e => hn (Option.some.inj e))
  have hwz := hw2.size
  have hBz := hB.size
  refine ⟨(hm.below hB).blk (hk _ (by omega) (by omega)), there_blk (there_below hz (by omega) hB) (hk _ (by omega) (by omega)), Bm.TC.laid ht, k1.block (hk _ a2 n1), k2.block (hk _ b2 n2), fun _ _ _ => OwnL.nil _ _, fun _ _ _ _ _ _ _ k hk => (by cases hk), ?_, hg.size, ⟨by omega, by omega, t2, a2, b2⟩, ⟨hwr, by omega⟩, ⟨by omega, by omega, by omega⟩, ⟨by omega, by omega, n1, n2, hmr, by omega, by omega⟩⟩
  exact (hw2.trans (hB.mono hwz)).grown hg (by omega) (fun q hq => by cases hq; omega)
/-- What the reference's Pack leaves. -/
def RefPost (M : Mc) (w : World) (e : Ending) (w' : World) : Prop :=
  Below w.heap.size w w' ∧ ((¬ SndM M ∧ e = .returned (.tuple #[.agg zeroT, .int .i64 10])) ∨
    (SndM M ∧ ∃ A : TbA, e = .returned (.tuple #[.agg (A.cells (packT M)), .int .i64 0]) ∧ TbF w.heap.size (packT M) A w'))
theorem Bm.OwnL.ilAt {B : Nat} {ad : Option Addr} {n cap : Nat} {l : List Int} {w : World} (h : OwnL B (.slice ad n cap) l w) : IL ad (fun i => l.getD i 0) l.length w := by
  obtain ⟨a, c, e, i⟩ := h.il
  cases e; exact i
theorem ref_out {M : Mc} {w W : World} {rb : Nat} (hrb : w.heap.size ≤ rb) (hth : W.there rb 0 7) (hB : Below w.heap.size w W) (hD : ¬ SndM M) :
    ∃ W', W' = W.setCells rb 0 zeroT.toList ∧ (loadVar 26 ⟨rb, 0, none⟩).run Try.prog W' = .ok (.agg zeroT) W' ∧ RefPost M w (.returned (.tuple #[.agg zeroT, .int .i64 10])) W' := by
  refine ⟨_, rfl, ?_, ?_, Or.inl ⟨hD, rfl⟩⟩
  · exact run_loadVar_mid (P := Try.prog) _ rb 0 26 zeroT.toList _ (World.rangeAt_setCells_same W rb 0 zeroT.toList hth) Try.underlying26 rfl info_tables
  · exact hB.grown (setCells_grown rb zeroT.toList 0 W) hB.size (fun q hq => by cases hq; exact hrb)
theorem PR.last {w : World} {M : Mc} {A : McA} {mb rb tb g1 g2 base : Nat} {L : Nat → List Int} {V : Nat → Value} {W : World} (h : PR w M A mb rb tb g1 g2 base L V W) (hS : SndM M) (h3 : L 3 = M.st.bs) (h4 : L 4 = M.st.df) (h5 : L 5 = M.st.ck) (h6 : L 6 = M.st.nt) :
    W.rangeAt tb 0 (prC M g1 g2 V) ∧ W.there rb 0 7 ∧ ((prC M g1 g2 V).toArray.all (·.oneCell') = true) ∧
    ∃ W', W' = W.setCells rb 0 (prC M g1 g2 V) ∧ (loadVar 26 ⟨rb, 0, none⟩).run Try.prog W' = .ok (.agg (prC M g1 g2 V).toArray) W' ∧ RefPost M w (.returned (.tuple #[.agg (prC M g1 g2 V).toArray, .int .i64 0])) W' := by
  have hg := setCells_grown rb (prC M g1 g2 V) 0 W
  obtain ⟨l1, l2, l3, l4, l5⟩ := h.lt
  obtain ⟨_, _, _, _, _, d6, d7⟩ := h.d
  have ol : ∀ k, 3 ≤ k → k ≤ 6 → OwnL base (V k) (L k) (W.setCells rb 0 (prC M g1 g2 V)) := fun k h1 h2 => (h.o k h1 h2).grown hg (fun q hq e => by have := ((h.o k h1 h2).blk q hq).1; have := Option.some.inj e; omega)
  obtain ⟨a3, c3, e3, i3⟩ := (ol 3 (by omega) (by omega)).il
  obtain ⟨a4, c4, e4, i4⟩ := (ol 4 (by omega) (by omega)).il
  obtain ⟨a5, c5, e5, i5⟩ := (ol 5 (by omega) (by omega)).il
  obtain ⟨a6, c6, e6, i6⟩ := (ol 6 (by omega) (by omega)).il
  rw [h3] at e3 i3
  rw [h4] at e4 i4
  rw [h5] at e5 i5
  rw [h6] at e6 i6
  refine ⟨h.t.range, h.z, all_oneCell_toArray (fun v hv => ?_), _, rfl, ?_, ?_, Or.inr ⟨hS, ⟨some ⟨g1, 0, none⟩, M.ncl, some ⟨g2, 0, none⟩, M.nlb, a3, c3, a4, c4, a5, c5, a6, c6⟩, ?_, fun w'' hz hkk => ?_⟩⟩
  · simp only [prC, List.mem_cons, List.not_mem_nil, or_false] at hv
    rcases hv with rfl | rfl | rfl | rfl | rfl | rfl | rfl
    · rfl
    · rfl
    · rfl
    · rw [e3]; rfl
    · rw [e4]; rfl
    · rw [e5]; rfl
    · rw [e6]; rfl
  · exact run_loadVar_mid (P := Try.prog) _ rb 0 26 (prC M g1 g2 V) _ (World.rangeAt_setCells_same W rb 0 (prC M g1 g2 V) h.z) Try.underlying26 rfl info_tables
  · exact h.bel.grown hg h.bel.size (fun q hq => by cases hq; exact h.ge.1)
  · unfold prC
    rw [e3, e4, e5, e6]; rfl
  · have hsz : (W.setCells rb 0 (prC M g1 g2 V)).heap.size = W.heap.size := setCells_size _ _ _ _
    have hbw := h.bw
    obtain ⟨gg1, gg2, gg3⟩ := h.gg
    have n1 := h.k1.block (hg.block _ (by omega) (fun e => d6 (Option.some.inj e)))
    have n2 := h.k2.block (hg.block _ (by omega) (fun e => d7 (Option.some.inj e)))
    have ow : ∀ k, 3 ≤ k → k ≤ 6 → OwnL base (V k) (L k) w'' := fun k h1 h2 => (ol k h1 h2).keep (fun q hq => hkk q (by have := ((ol k h1 h2).blk q hq).1; omega) ((ol k h1 h2).blk q hq).2)
    have j3 := ow 3 (by omega) (by omega)
    have j4 := ow 4 (by omega) (by omega)
    have j5 := ow 5 (by omega) (by omega)
    have j6 := ow 6 (by omega) (by omega)
    rw [e3, h3] at j3
    rw [e4, h4] at j4
    rw [e5, h5] at j5
    rw [e6, h6] at j6
    exact ⟨(n1.block (hkk g1 gg1 (by omega))).il (Nat.le_refl _), (n2.block (hkk g2 gg2 (by omega))).il (Nat.le_refl _), j3.ilAt, j4.ilAt, j5.ilAt, j6.ilAt⟩
end Go.Proofs.Ytoaaklhpmhjhkaa
