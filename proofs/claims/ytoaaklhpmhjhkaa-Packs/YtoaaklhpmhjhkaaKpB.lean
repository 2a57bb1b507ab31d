/-
  munchkeep's machine.
-/
import Derived.Test.YtoaaklhpmhjhkaaKpA
import Derived.Test.YtoaaklhpmhjhkaaPkH
namespace Go.Proofs.Ytoaaklhpmhjhkaa
open Go.RowKit
open Bm

/-- What machine has at hand: its result at rb, the machine at mb, the classes at g; the lists lie from base on. -/
structure MS (w : World) (rb mb g base : Nat) (rl : Int) (f : Nat → Int) (ls xs : List Int) (vl vx : Value) (W : World) : Prop where
  z : W.there rb 0 4
  t : TC mb [.int .i64 rl, .slice (some ⟨g, 0, none⟩) 256 256, vl, vx] W
  k : NRow g f 256 W
  l : OwnL base vl ls W
  x : OwnL base vx xs W
  ne : Ne2 vl vx
  bel : Below w.heap.size w W
  bw : base ≤ W.heap.size
  o0 : w.heap.size ≤ rb
  o1 : rb < mb
  o2 : mb < g
  o3 : g < base
theorem MS.move {w : World} {rb mb g base : Nat} {rl : Int} {f : Nat → Int} {ls xs ls' xs' : List Int} {vl vx vl' vx' : Value} {W W' : World} (h : MS w rb mb g base rl f ls xs vl vx W)
    (hk : ∀ q, q < base → q ≠ mb → W'.heap[q]? = W.heap[q]?) (hz : W.heap.size ≤ W'.heap.size) (ht : TC mb [.int .i64 rl, .slice (some ⟨g, 0, none⟩) 256 256, vl', vx'] W')
    (hl : OwnL base vl' ls' W') (hx : OwnL base vx' xs' W') (ne : Ne2 vl' vx') (hB : Below w.heap.size w W') : MS w rb mb g base rl f ls' xs' vl' vx' W' := by
  have h0 := h.o0
  have h1 := h.o1
  have h2 := h.o2
  have h3 := h.o3
  exact ⟨there_blk h.z (hk _ (by omega) (by omega)), ht, h.k.block (hk _ (by omega) (by omega)), hl, hx, ne, hB, Nat.le_trans h.bw hz, h0, h1, h2, h3⟩
theorem MS.below {w : World} {rb mb g base : Nat} {rl : Int} {f : Nat → Int} {ls xs : List Int} {vl vx : Value} {W W' : World} (h : MS w rb mb g base rl f ls xs vl vx W) (hW : Below W.heap.size W W') : MS w rb mb g base rl f ls xs vl vx W' :=
  h.move (fun q hq _ => hW.block q (Nat.lt_of_lt_of_le hq h.bw)) hW.size (h.t.below hW) (h.l.below hW) (h.x.below hW) h.ne (h.bel.trans (hW.mono h.bel.size))
theorem MS.ready {w : World} {rb mb g base : Nat} {rl : Int} {f : Nat → Int} {ls xs : List Int} {vl vx : Value} {W : World} (y : Int) (h : MS w rb mb g base rl f ls xs vl vx W) :
    OwnL base vl ls (W.alloc (.cells #[.int .i64 y] 3)) ∧ OwnL base vx xs (W.alloc (.cells #[.int .i64 y] 3)) ∧ (W.alloc (.cells #[.int .i64 y] 3)).cell? ⟨W.heap.size, 0, none⟩ = some (.int .i64 y) ∧ base ≤ (W.alloc (.cells #[.int .i64 y] 3)).heap.size ∧
    (∀ w5, (W.alloc (.cells #[.int .i64 y] 3)).grownBy w5 vl.ownBlock → w5.cell? ⟨mb, 2, none⟩ = some vl ∧ w5.frozen? ⟨mb, 2, none⟩ = false) ∧
    (∀ w5, (W.alloc (.cells #[.int .i64 y] 3)).grownBy w5 vx.ownBlock → w5.cell? ⟨mb, 3, none⟩ = some vx ∧ w5.frozen? ⟨mb, 3, none⟩ = false) := by
  have hx := box_bel W (.cells #[.int .i64 y] 3)
  have h2 := h.o2
  have h3 := h.o3
  refine ⟨h.l.below hx, h.x.below hx, by rw [World.cell?_alloc_new]; rfl, Nat.le_trans h.bw hx.size, fun w5 hg => ?_, fun w5 hg => ?_⟩
  · exact ((h.t.below hx).block (hg.block _ (Nat.lt_of_lt_of_le h.t.lt hx.size) (fun e => by have := (h.l.blk _ e.symm).1; omega))) 2 _ rfl
  · exact ((h.t.below hx).block (hg.block _ (Nat.lt_of_lt_of_le h.t.lt hx.size) (fun e => by have := (h.x.blk _ e.symm).1; omega))) 3 _ rfl
theorem MS.pushL {w : World} {rb mb g base : Nat} {rl : Int} {f : Nat → Int} {ls xs : List Int} {vl vx : Value} {W W1 w5 : World} {y : Int} {q cap : Nat} {o : Obj} (h : MS w rb mb g base rl f ls xs vl vx W) (hW1 : W1 = W.alloc o)
    (h5 : OwnL base (.slice (some ⟨q, 0, none⟩) (ls.length + 1) cap) (ls ++ [y]) w5) (hg : W1.grownBy w5 vl.ownBlock) (hgb : vl.ownBlock = some q ∨ q = W1.heap.size) :
    MS w rb mb g base rl f (ls ++ [y]) xs (.slice (some ⟨q, 0, none⟩) (ls.length + 1) cap) vx (w5.setCell ⟨mb, 2, none⟩ (.slice (some ⟨q, 0, none⟩) (ls.length + 1) cap)) := by
  have x1 : Below W.heap.size W W1 := by rw [hW1]; exact box_bel _ _
  have hz1 : W1.heap.size = W.heap.size + 1 := by rw [hW1]; simp
  have k1 := h.below x1
  have h0 := h.o0
  have h1 := h.o1
  have h2 := h.o2
  have h3 := h.o3
  have h8 := h.bw
  have hgc : base ≤ q := (h5.blk q rfl).1
  have hdb := h.l.blk
  have hb : ∀ k, k ≠ mb → (w5.setCell ⟨mb, 2, none⟩ (.slice (some ⟨q, 0, none⟩) (ls.length + 1) cap)).heap[k]? = w5.heap[k]? := fun k hk => Below.heap_setCell w5 ⟨mb, 2, none⟩ _ k (fun e => hk e)
  have kp : ∀ k, k < W1.heap.size → k ≠ mb → vl.ownBlock ≠ some k → (w5.setCell ⟨mb, 2, none⟩ (.slice (some ⟨q, 0, none⟩) (ls.length + 1) cap)).heap[k]? = W1.heap[k]? := fun k hk h0 h1 => by
    rw [hb k h0, hg.block k hk (fun e => h1 e.symm)]
  refine k1.move (fun k hk hk1 => kp k (by omega) hk1 (fun e => by have := (hdb k e).1; omega)) (by have := hg.size; simpa [World.setCell] using this) ?_ (h5.keep (fun k hk => hb k (by cases hk; show q ≠ _; omega))) (k1.x.keep (fun k hk => kp k (k1.x.blk k hk).2 (by have := (k1.x.blk k hk).1; omega) (fun e => h.ne k e hk))) ?_ ?_
  · exact (k1.t.block (hg.block _ (by omega) (fun e => by have := (hdb _ e.symm).1; omega))).set 2 (by simp) _
  · exact ne_push rfl hgb (by omega) (fun k hk => (h.x.blk k hk).2) h.ne
  · exact (k1.bel.grown hg (by omega) (fun k hk => by have := (hdb k hk).1; omega)).setCell (p := ⟨mb, 2, none⟩) (show w.heap.size ≤ mb by omega) _
theorem MS.pushX {w : World} {rb mb g base : Nat} {rl : Int} {f : Nat → Int} {ls xs : List Int} {vl vx : Value} {W W1 w5 : World} {y : Int} {q cap : Nat} {o : Obj} (h : MS w rb mb g base rl f ls xs vl vx W) (hW1 : W1 = W.alloc o)
    (h5 : OwnL base (.slice (some ⟨q, 0, none⟩) (xs.length + 1) cap) (xs ++ [y]) w5) (hg : W1.grownBy w5 vx.ownBlock) (hgb : vx.ownBlock = some q ∨ q = W1.heap.size) :
    MS w rb mb g base rl f ls (xs ++ [y]) vl (.slice (some ⟨q, 0, none⟩) (xs.length + 1) cap) (w5.setCell ⟨mb, 3, none⟩ (.slice (some ⟨q, 0, none⟩) (xs.length + 1) cap)) := by
  have x1 : Below W.heap.size W W1 := by rw [hW1]; exact box_bel _ _
  have hz1 : W1.heap.size = W.heap.size + 1 := by rw [hW1]; simp
  have k1 := h.below x1
  have h0 := h.o0
  have h1 := h.o1
  have h2 := h.o2
  have h3 := h.o3
  have h8 := h.bw
  have hgc : base ≤ q := (h5.blk q rfl).1
  have hdb := h.x.blk
  have hb : ∀ k, k ≠ mb → (w5.setCell ⟨mb, 3, none⟩ (.slice (some ⟨q, 0, none⟩) (xs.length + 1) cap)).heap[k]? = w5.heap[k]? := fun k hk => Below.heap_setCell w5 ⟨mb, 3, none⟩ _ k (fun e => hk e)
  have kp : ∀ k, k < W1.heap.size → k ≠ mb → vx.ownBlock ≠ some k → (w5.setCell ⟨mb, 3, none⟩ (.slice (some ⟨q, 0, none⟩) (xs.length + 1) cap)).heap[k]? = W1.heap[k]? := fun k hk h0 h1 => by
    rw [hb k h0, hg.block k hk (fun e => h1 e.symm)]
  refine k1.move (fun k hk hk1 => kp k (by omega) hk1 (fun e => by have := (hdb k e).1; omega)) (by have := hg.size; simpa [World.setCell] using this) ?_ (k1.l.keep (fun k hk => kp k (k1.l.blk k hk).2 (by have := (k1.l.blk k hk).1; omega) (fun e => h.ne k hk e))) (h5.keep (fun k hk => hb k (by cases hk; show q ≠ _; omega))) ?_ ?_
  · exact (k1.t.block (hg.block _ (by omega) (fun e => by have := (hdb _ e.symm).1; omega))).set 3 (by simp) _
  · exact (ne_push rfl hgb (by omega) (fun k hk => (h.l.blk k hk).2) h.ne.symm).symm
  · exact (k1.bel.grown hg (by omega) (fun k hk => by have := (hdb k hk).1; omega)).setCell (p := ⟨mb, 3, none⟩) (show w.heap.size ≤ mb by omega) _
/-- The machine that is made. -/
def mkM (rl : Int) (f : Nat → Int) (ls xs : List Int) : Mc := ⟨rl, f, 256, fun i => ls.getD i 0, ls.length, fun i => xs.getD i 0, xs.length⟩
theorem getD_mem {l : List Int} {i : Nat} (h : i < l.length) : l.getD i 0 ∈ l := by
  rw [List.getD_eq_getElem?_getD, List.getElem?_eq_getElem h]; exact List.getElem_mem h
theorem mkM_snd {rl : Int} {f : Nat → Int} {ls xs : List Int} {n : Nat} (hr : 1 ≤ rl ∧ rl ≤ 8) (hc : clsTo f 256 = some n) (hn : 1 ≤ n) (hl : 1 ≤ ls.length ∧ ls.length ≤ 96) (hx : xs.length = ls.length * n) (h1 : ∀ y ∈ ls, -1 ≤ y ∧ y ≤ rl - 1) (h2 : ∀ y ∈ xs, -1 ≤ y ∧ y ≤ (ls.length : Int) - 1) : SndM (mkM rl f ls xs) ∧ (mkM rl f ls xs).k = n := by
  have hk : (mkM rl f ls xs).k = n := by
    unfold Mc.k cls mkM
    simp [hc]
  refine ⟨⟨⟨hr, hl, ?_, fun i hi => h1 _ (getD_mem hi)⟩, ?_, fun i hi => h2 _ (getD_mem hi)⟩, hk⟩
  · show 0 < (mkM rl f ls xs).k
    rw [hk]; exact hn
  · rw [hk]; exact hx
/-- What machine leaves. -/
def MkPost (w : World) (e : Ending) (w' : World) : Prop := ∃ (M : Mc) (A : McA), SndM M ∧ e = .returned (.tuple #[.agg (A.cells M), .int .i64 M.k]) ∧ McIn M A w' ∧ Below w.heap.size w w'
theorem info_machine : (Try.prog.info? 49).map (·.size) = some 4 := by kernel_rfl
theorem zero_machine (w : World) : (zeroValue 49).run Try.prog w = .ok (.agg #[.int .i64 0, .slice none 0 0, .slice none 0 0, .slice none 0 0]) w := by
  go_simp
theorem zeroM_there (w : World) (t : TypeId) : (w.alloc (.cells #[.int .i64 0, .slice none 0 0, .slice none 0 0, .slice none 0 0] t)).there w.heap.size 0 4 := fun j hj => by
  rcases j with _ | _ | _ | _ | j <;> first | (refine ⟨?_, ?_⟩ <;> go_simp) | omega
theorem MS.last {w : World} {rb mb g base : Nat} {rl : Int} {f : Nat → Int} {ls xs : List Int} {vl vx : Value} {W : World} {n : Nat} (h : MS w rb mb g base rl f ls xs vl vx W) (hr : 1 ≤ rl ∧ rl ≤ 8) (hc : clsTo f 256 = some n) (hn : 1 ≤ n) (hl : 1 ≤ ls.length ∧ ls.length ≤ 96) (hx : xs.length = ls.length * n) (h1 : ∀ y ∈ ls, -1 ≤ y ∧ y ≤ rl - 1) (h2 : ∀ y ∈ xs, -1 ≤ y ∧ y ≤ (ls.length : Int) - 1) :
    ∃ W', W' = W.setCells rb 0 [.int .i64 rl, .slice (some ⟨g, 0, none⟩) 256 256, vl, vx] ∧ (loadVar 49 ⟨rb, 0, none⟩).run Try.prog W' = .ok (.agg #[.int .i64 rl, .slice (some ⟨g, 0, none⟩) 256 256, vl, vx]) W' ∧ MkPost w (.returned (.tuple #[.agg #[.int .i64 rl, .slice (some ⟨g, 0, none⟩) 256 256, vl, vx], .int .i64 n])) W' := by
  obtain ⟨hS, hk⟩ := mkM_snd hr hc hn hl hx h1 h2
  obtain ⟨a2, c2, e2, i2⟩ := h.l.il
  obtain ⟨a3, c3, e3, i3⟩ := h.x.il
  have h0 := h.o0
  have hh1 := h.o1
  have hh2 := h.o2
  have hh3 := h.o3
  have hg := setCells_grown rb [.int .i64 rl, .slice (some ⟨g, 0, none⟩) 256 256, vl, vx] 0 W
  refine ⟨_, rfl, ?_, mkM rl f ls xs, ⟨some ⟨g, 0, none⟩, 256, a2, c2, a3, c3⟩, hS, ?_, ⟨?_, ?_, ?_⟩, ?_⟩
  · exact run_loadVar_mid (P := Try.prog) _ rb 0 49 [.int .i64 rl, .slice (some ⟨g, 0, none⟩) 256 256, vl, vx] _ (World.rangeAt_setCells_same W rb 0 [.int .i64 rl, .slice (some ⟨g, 0, none⟩) 256 256, vl, vx] h.z) Try.underlying49 rfl info_machine
  · rw [hk, e2, e3]; rfl
  · exact (h.k.block (hg.block _ (h.k.lt (by omega)) (fun e => by have := Option.some.inj e; omega))).il (Nat.le_refl _)
  · have hl2 : OwnL base vl ls (W.setCells rb 0 [.int .i64 rl, .slice (some ⟨g, 0, none⟩) 256 256, vl, vx]) := h.l.grown hg (fun k hk e => by have := (h.l.blk k hk).1; have := Option.some.inj e; omega)
    obtain ⟨a, c, e, i⟩ := hl2.il
    rw [e2] at e
    have := (Value.slice.inj e).1
    rw [this]; exact i
  · have hl2 : OwnL base vx xs (W.setCells rb 0 [.int .i64 rl, .slice (some ⟨g, 0, none⟩) 256 256, vl, vx]) := h.x.grown hg (fun k hk e => by have := (h.x.blk k hk).1; have := Option.some.inj e; omega)
    obtain ⟨a, c, e, i⟩ := hl2.il
    rw [e3] at e
    have := (Value.slice.inj e).1
    rw [this]; exact i
  · exact h.bel.grown hg h.bel.size (fun q hq => by cases hq; exact h0)
end Go.Proofs.Ytoaaklhpmhjhkaa
