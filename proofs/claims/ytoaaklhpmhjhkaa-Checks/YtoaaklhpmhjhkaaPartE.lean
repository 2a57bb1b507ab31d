/-
  Rows of parts.
-/
import Derived.Test.YtoaaklhpmhjhkaaPartA
import Derived.Test.YtoaaklhpmhjhkaaPlainQ
import Derived.Deep.AppendLies
namespace Go.Proofs.Ytoaaklhpmhjhkaa
open Go.RowKit
open Pg (Pt)
def Pt.cells (p : Pt) : List Value := partL p.kd p.pl p.f p.le p.mo p.fa
def flat (ps : List Pt) : List Value := ps.flatMap Pt.cells
theorem flat_len (ps : List Pt) : (flat ps).length = ps.length * 261 := by
  induction ps with
  | nil => rfl
  | cons p r ih => simp only [flat, List.flatMap_cons, List.length_append] at *; rw [ih]; simp [Pt.cells, partL_len]; omega
theorem flat_append (a b : List Pt) : flat (a ++ b) = flat a ++ flat b := by simp [flat]
theorem flat_one (p : Pt) : flat [p] = Pt.cells p := by simp [flat]
theorem flat_get (ps : List Pt) (k : Nat) (p : Pt) (h : ps[k]? = some p) (j : Nat) (v : Value) (hv : (Pt.cells p)[j]? = some v) : (flat ps)[k * 261 + j]? = some v := by
  induction ps generalizing k with
  | nil => simp at h
  | cons q r ih =>
    have hj : j < 261 := by have := (List.getElem?_eq_some_iff.1 hv).1; simpa [Pt.cells, partL_len] using this
    rcases k with _ | k
    · simp only [List.getElem?_cons_zero, Option.some.injEq] at h
      subst h
      rw [Nat.zero_mul, Nat.zero_add, flat, List.flatMap_cons, List.getElem?_append_left (by simp [Pt.cells, partL_len, hj])]
      exact hv
    · simp only [List.getElem?_cons_succ] at h
      rw [flat, List.flatMap_cons, List.getElem?_append_right (by simp [Pt.cells, partL_len]; omega)]
      have : (k + 1) * 261 + j - (Pt.cells q).length = k * 261 + j := by simp [Pt.cells, partL_len]; omega
      rw [this]; exact ih k h
theorem owns_range {w : World} {base g n cap : Nat} {e : TypeId} {ps : List Pt} (h : w.ownsRow base e 261 (.slice (some ⟨g, 0, none⟩) n cap) n (flat ps)) (k : Nat) (p : Pt) (hp : ps[k]? = some p) :
    w.rangeAt g (k * 261) (Pt.cells p) := fun j v hv => by
  have h1 := flat_get ps k p hp j v hv
  rcases h.2 with ⟨h0, _⟩ | ⟨g', cap', cur, hv', hb, hg, hle, hm, hsz, htake⟩
  · cases h0
  · cases hv'
    rw [cell_of_row w g (k * 261 + j) cur e (0, 0) hg, ← h1, ← htake]
    have : k * 261 + j < n * 261 := by
      have := (List.getElem?_eq_some_iff.1 h1).1
      rw [h.1] at this; exact this
    simp [this]
theorem owns_below {w w' : World} {base : Nat} {e : TypeId} {sz n : Nat} {v : Value} {xs : List Value} (h : w.ownsRow base e sz v n xs) (hW : Below w.heap.size w w') : w'.ownsRow base e sz v n xs := by
  refine ⟨h.1, ?_⟩
  rcases h.2 with h0 | ⟨g', cap', cur, hv', hb, hg, hrest⟩
  · exact Or.inl h0
  · refine Or.inr ⟨g', cap', cur, hv', hb, ?_, hrest⟩
    rw [hW.block g' ?_]; exact hg
    rcases Nat.lt_or_ge g' w.heap.size with hlt | hge
    · exact hlt
    · rw [Array.getElem?_eq_none hge] at hg; cases hg
theorem run_one_part (w : World) (p : Pt) : (Instr.buildSlice 115 1 #[(0, .agg (Pt.cells p).toArray)]).run Try.prog w = .ok (.slice (some ⟨w.heap.size, 0, none⟩) 1 1) (w.alloc (.cells (Pt.cells p).toArray 146)) := by kernel_rfl
theorem info_part2 : ∃ i, Try.prog.info? 146 = some i ∧ i.zero = some (.agg (partL 0 0 (fun _ => false) 0 0 0).toArray) ∧ i.size = 261 ∧ i.bytes = 296 := by
  have h1 : (Try.prog.info? 146).isSome = true := by kernel_rfl
  obtain ⟨i, hi⟩ := Option.isSome_iff_exists.1 h1
  refine ⟨i, hi, ?_, ?_, ?_⟩
  · have : ((Try.prog.info? 146).bind (·.zero)) = some (.agg (partL 0 0 (fun _ => false) 0 0 0).toArray) := by kernel_rfl
    rw [hi] at this; exact this
  · have : ((Try.prog.info? 146).map (·.size)) = some 261 := by kernel_rfl
    rw [hi] at this; simpa using this
  · have : ((Try.prog.info? 146).map (·.bytes)) = some 296 := by kernel_rfl
    rw [hi] at this; simpa using this

theorem wpList_build1 {ops : Array Oper} {rest : List Oper} {op : Oper} {a : Act} {w : World} {Q : Exit → Act → World → Prop} (hgd : op.guard = none) (x : Operand) (ho : op.op = .buildSlice 115 1 #[(0, x)])
    (p : Pt) (hx : a.eval x = .agg (Pt.cells p).toArray) (H : Nat) (hH : w.heap.size = H)
    (h : wpList Try.prog ops Q rest (a.put op.dst (.slice (some ⟨H, 0, none⟩) 1 1)) (w.alloc (.cells (Pt.cells p).toArray 146))) : wpList Try.prog ops Q (op :: rest) a w :=
  wpList_plain hgd fun _ hK => by
    subst hH
    have hr : (Instr.buildSlice 115 1 (#[(0, x)].map fun (i, o) => (i, a.eval o))).run Try.prog w = .ok (.slice (some ⟨w.heap.size, 0, none⟩) 1 1) (w.alloc (.cells (Pt.cells p).toArray 146)) := by
      rw [show (#[((0 : Nat), x)].map fun (i, o) => (i, a.eval o)) = #[(0, a.eval x)] by simp, hx]; exact run_one_part w p
    unfold Oper.wp execOp
    simp only [ho, Sem.run_bind, Sem.run_pure, Result.andThen_ok, hr]
    exact hK _ _ h
theorem owns_ge {w : World} {base : Nat} {e : TypeId} {sz n : Nat} {v : Value} {xs : List Value} (h : w.ownsRow base e sz v n xs) : ∀ k, v.ownBlock = some k → base ≤ k := by
  intro k hk
  rcases h.2 with ⟨rfl, _⟩ | ⟨g', cap', cur, rfl, hb, _⟩
  · cases hk
  · cases hk; exact hb
theorem size_setCells (b : Nat) : ∀ (vs : List Value) (o : Nat) (w : World), (w.setCells b o vs).heap.size = w.heap.size
  | [], _, _ => rfl
  | v :: r, o, w => by rw [World.setCells, size_setCells b r]; simp [World.setCell]
theorem news_alloc (w : World) (H : Nat) (hH : w.heap.size = H) (p : Pt) (t : TypeId) : ∀ j u, (Pt.cells p)[j]? = some u → (w.alloc (.cells (Pt.cells p).toArray t)).cell? ((⟨H, 0, none⟩ : Addr).add j) = some u := by
  intro j u hu
  subst hH
  rw [Addr.add_mid, Nat.zero_add, World.cell?_alloc_new]
  simpa using hu

theorem wpList_append_part {w : World} {ops : Array Oper} {rest : List Oper} {o : Oper} {a : Act} {Q : Exit → Act → World → Prop} (hgd : o.guard = none) (s x : Operand)
    (ho : o.op = .call { callee := .builtin .append, args := #[s, x], argTypes := #[115, 115] }) (base : Nat)
    (v : Value) (ps : List Pt) (hs : a.eval s = v) (hown : w.ownsRow base 146 261 v ps.length (flat ps)) (hn : ps.length ≤ 1000)
    (B : Nat) (p : Pt) (hx : a.eval x = .slice (some ⟨B, 0, none⟩) 1 1) (hnews : ∀ j u, (Pt.cells p)[j]? = some u → w.cell? ((⟨B, 0, none⟩ : Addr).add j) = some u) (hbase : base ≤ w.heap.size)
    (h : ∀ g cap w', w'.ownsRow base 146 261 (.slice (some ⟨g, 0, none⟩) (ps.length + 1) cap) (ps.length + 1) (flat (ps ++ [p])) → w.grownBy w' v.ownBlock → wpList Try.prog ops Q rest (a.put o.dst (.slice (some ⟨g, 0, none⟩) (ps.length + 1) cap)) w') : wpList Try.prog ops Q (o :: rest) a w := by
  obtain ⟨i, hi, hz0, hz1, hz2⟩ := info_part2
  refine wpList_append_lies w hgd s x 115 ho base 146 i (.agg (partL 0 0 (fun _ => false) 0 0 0).toArray) 261 296 Try.underlying115 hi hz0 hz1 hz2 (by simp [Value.cells, partL_len]) (by omega) v ps.length (flat ps) hs hown ⟨B, 0, none⟩ 1 1 (Pt.cells p) hx (by simp [Pt.cells, partL_len]) hnews (partL_one _ _ _ _ _ _) (by omega) (by unfold maxLen; omega) (by omega) hbase w.heap.size rfl ?_
  intro g cap w' h1 h2 h3 h4
  refine h g cap w' ?_ h2
  rw [flat_append, flat_one]; exact h1
end Go.Proofs.Ytoaaklhpmhjhkaa
