/-
  The program's parts as cells; laws for what the walks do to them as a whole.
-/
import Derived.Test.YtoaaklhpmhjhkaaSetA
namespace Go.Proofs.Ytoaaklhpmhjhkaa
open Go.RowKit
/-- A part as cells. -/
def partL (kd pl : Int) (f : Nat → Bool) (le mo fa : Int) : List Value := .int .i64 kd :: .int .i64 pl :: (setL f ++ [.int .i64 le, .int .i64 mo, .int .i64 fa])
theorem partL_len (kd pl : Int) (f : Nat → Bool) (le mo fa : Int) : (partL kd pl f le mo fa).length = 261 := by simp [partL, setL_len]
theorem partL_one (kd pl : Int) (f : Nat → Bool) (le mo fa : Int) : ∀ v ∈ partL kd pl f le mo fa, v.oneCell' = true := by
  intro v hv
  simp only [partL, List.mem_cons, List.mem_append, List.not_mem_nil, or_false] at hv
  rcases hv with rfl | rfl | h | rfl | rfl | rfl
  · rfl
  · rfl
  · exact setL_one f v h
  · rfl
  · rfl
  · rfl
theorem zero_part (w : World) : (zeroValue 146).run Try.prog w = .ok (.agg (partL 0 0 (fun _ => false) 0 0 0).toArray) w := by
  have h : (Try.prog.info? 146).bind (·.zero) = some (.agg (partL 0 0 (fun _ => false) 0 0 0).toArray) := by kernel_rfl
  cases hq : Try.prog.info? 146 with
  | none => rw [hq] at h; cases h
  | some i => rw [hq] at h; simp at h; simp [zeroValue, typeInfo, hq, h]
theorem info_part : (Try.prog.info? 146).map (·.size) = some 261 := by kernel_rfl
theorem run_build_part (w : World) (x y z : Int) : (Instr.build 146 #[(0, .int .i64 x), (1, .int .i64 y), (5, .int .i64 z)]).run Try.prog w = .ok (.agg (partL x y (fun _ => false) 0 0 z).toArray) w := by kernel_rfl

theorem wpList_build_part {ops : Array Oper} {rest : List Oper} {op : Oper} {a : Act} {w : World} {Q : Exit → Act → World → Prop} (hgd : op.guard = none) (ps : Array (Nat × Operand)) (ho : op.op = .build 146 ps)
    (x y z : Int) (hx : (ps.map fun (i, o) => (i, a.eval o)) = #[(0, .int .i64 x), (1, .int .i64 y), (5, .int .i64 z)])
    (h : wpList Try.prog ops Q rest (a.put op.dst (.agg (partL x y (fun _ => false) 0 0 z).toArray)) w) : wpList Try.prog ops Q (op :: rest) a w :=
  wpList_plain hgd fun _ hK => by
    unfold Oper.wp execOp
    simp only [ho, hx, run_build_part w x y z, Sem.run_bind, Sem.run_pure, Result.andThen_ok]
    exact hK _ _ h

/-- A part that lies at block g, and may be written. -/
structure PRow (g : Nat) (kd pl : Int) (f : Nat → Bool) (le mo fa : Int) (w : World) : Prop where
  at_ : w.rangeAt g 0 (partL kd pl f le mo fa)
  free : w.there g 0 261
theorem partL_get0 (kd pl : Int) (f : Nat → Bool) (le mo fa : Int) : (partL kd pl f le mo fa)[0]? = some (.int .i64 kd) := rfl
theorem partL_get1 (kd pl : Int) (f : Nat → Bool) (le mo fa : Int) : (partL kd pl f le mo fa)[1]? = some (.int .i64 pl) := rfl
theorem partL_get2 (kd pl : Int) (f : Nat → Bool) (le mo fa : Int) (j : Nat) (hj : j < 256) : (partL kd pl f le mo fa)[2 + j]? = some (.bool (f j)) := by
  rw [show 2 + j = j + 1 + 1 by omega]
  simp only [partL, List.getElem?_cons_succ]
  rw [List.getElem?_append_left (by rw [setL_len]; exact hj), setL_get f j hj]
theorem partL_get3 (kd pl : Int) (f : Nat → Bool) (le mo fa : Int) (j : Nat) : (partL kd pl f le mo fa)[258 + j]? = [Value.int .i64 le, .int .i64 mo, .int .i64 fa][j]? := by
  rw [show 258 + j = (256 + j) + 1 + 1 by omega]
  simp only [partL, List.getElem?_cons_succ]
  rw [List.getElem?_append_right (by rw [setL_len]; omega), setL_len, show 256 + j - 256 = j by omega]
/-- Cell by cell. -/
theorem rangeAt_part {g : Nat} {kd pl : Int} {f : Nat → Bool} {le mo fa : Int} {w : World} (h0 : w.cell? ⟨g, 0, none⟩ = some (.int .i64 kd)) (h1 : w.cell? ⟨g, 1, none⟩ = some (.int .i64 pl))
    (h2 : ∀ j, j < 256 → w.cell? ⟨g, 2 + j, none⟩ = some (.bool (f j))) (h3 : w.cell? ⟨g, 258, none⟩ = some (.int .i64 le)) (h4 : w.cell? ⟨g, 259, none⟩ = some (.int .i64 mo)) (h5 : w.cell? ⟨g, 260, none⟩ = some (.int .i64 fa)) :
    w.rangeAt g 0 (partL kd pl f le mo fa) := fun j v hv => by
  have hj : j < 261 := by have := (List.getElem?_eq_some_iff.1 hv).1; rw [partL_len] at this; exact this
  rw [Nat.zero_add]
  rcases Nat.lt_or_ge j 2 with hlt | hge
  · rcases Nat.lt_or_ge j 1 with h | h
    · have : j = 0 := by omega
      subst this; rw [partL_get0] at hv; rw [h0]; exact hv
    · have : j = 1 := by omega
      subst this; rw [partL_get1] at hv; rw [h1]; exact hv
  · rcases Nat.lt_or_ge j 258 with hlt2 | hge2
    · obtain ⟨i, rfl⟩ : ∃ i, j = 2 + i := ⟨j - 2, by omega⟩
      rw [partL_get2 _ _ _ _ _ _ i (by omega)] at hv
      rw [h2 i (by omega)]; exact hv
    · obtain ⟨i, rfl⟩ : ∃ i, j = 258 + i := ⟨j - 258, by omega⟩
      rw [partL_get3] at hv
      have : i = 0 ∨ i = 1 ∨ i = 2 := by omega
      rcases this with rfl | rfl | rfl
      · rw [h3]; exact hv
      · rw [h4]; exact hv
      · rw [h5]; exact hv
section
variable {g : Nat} {kd pl : Int} {f : Nat → Bool} {le mo fa : Int} {w : World}
theorem PRow.c0 (h : PRow g kd pl f le mo fa w) : w.cell? ⟨g, 0, none⟩ = some (.int .i64 kd) := by have := h.at_ 0 _ (partL_get0 ..); rwa [Nat.zero_add] at this
theorem PRow.c1 (h : PRow g kd pl f le mo fa w) : w.cell? ⟨g, 1, none⟩ = some (.int .i64 pl) := by have := h.at_ 1 _ (partL_get1 ..); rwa [Nat.zero_add] at this
theorem PRow.c2 (h : PRow g kd pl f le mo fa w) (j : Nat) (hj : j < 256) : w.cell? ⟨g, 2 + j, none⟩ = some (.bool (f j)) := by have := h.at_ (2 + j) _ (partL_get2 _ _ _ _ _ _ j hj); rwa [Nat.zero_add] at this
theorem PRow.c3 (h : PRow g kd pl f le mo fa w) : w.cell? ⟨g, 258, none⟩ = some (.int .i64 le) := by have := h.at_ (258 + 0) (.int .i64 le) (by rw [partL_get3]; rfl); rwa [Nat.zero_add] at this
theorem PRow.c4 (h : PRow g kd pl f le mo fa w) : w.cell? ⟨g, 259, none⟩ = some (.int .i64 mo) := by have := h.at_ (258 + 1) (.int .i64 mo) (by rw [partL_get3]; rfl); rwa [Nat.zero_add] at this
theorem PRow.c5 (h : PRow g kd pl f le mo fa w) : w.cell? ⟨g, 260, none⟩ = some (.int .i64 fa) := by have := h.at_ (258 + 2) (.int .i64 fa) (by rw [partL_get3]; rfl); rwa [Nat.zero_add] at this
theorem PRow.fr (h : PRow g kd pl f le mo fa w) (j : Nat) (hj : j < 261) : w.frozen? ⟨g, j, none⟩ = false := by have := (h.free j hj).2; rwa [Nat.zero_add] at this
theorem PRow.set (h : PRow g kd pl f le mo fa w) : w.rangeAt g 2 (setL f) := fun j v hv => by
  obtain ⟨hj, rfl⟩ := setL_at f j v hv
  exact h.c2 j hj
theorem PRow.setFree (h : PRow g kd pl f le mo fa w) : w.there g 2 256 := fun j hj => by
  have := h.free (2 + j) (by omega); rwa [Nat.zero_add] at this
theorem there_setCell (h : w.there g 0 261) (b k : Nat) (v : Value) : (w.setCell ⟨b, k, none⟩ v).there g 0 261 := World.there_setCells (o' := 0) (n := 261) h b k [v]
theorem PRow.put2 (h : PRow g kd pl f le mo fa w) (f' : Nat → Bool) : PRow g kd pl f' le mo fa (w.setCells g 2 (setL f')) := by
  refine ⟨rangeAt_part ?_ ?_ (fun j hj => ?_) ?_ ?_ ?_, World.there_setCells h.free _ _ _⟩
  · rw [World.cell?_setCells_out _ _ _ _ _ (fun _ _ => Or.inl (by simp))]; exact h.c0
  · rw [World.cell?_setCells_out _ _ _ _ _ (fun _ _ => Or.inl (by simp))]; exact h.c1
  · have := World.rangeAt_setCells_same w g 2 (setL f') (by rw [setL_len]; exact h.setFree) j _ (setL_get f' j hj); exact this
  · rw [World.cell?_setCells_out _ _ _ _ _ (fun _ _ => Or.inr (by rw [setL_len]; simp))]; exact h.c3
  · rw [World.cell?_setCells_out _ _ _ _ _ (fun _ _ => Or.inr (by rw [setL_len]; simp))]; exact h.c4
  · rw [World.cell?_setCells_out _ _ _ _ _ (fun _ _ => Or.inr (by rw [setL_len]; simp))]; exact h.c5
theorem setCell_ne (w : World) (g i j : Nat) (v : Value) (h : i ≠ j) : (w.setCell ⟨g, i, none⟩ v).cell? ⟨g, j, none⟩ = w.cell? ⟨g, j, none⟩ :=
  World.cell?_setCell_other _ _ _ _ (by intro e; cases e; exact h rfl)
theorem PRow.put3 (h : PRow g kd pl f le mo fa w) (x : Int) : PRow g kd pl f x mo fa (w.setCell ⟨g, 258, none⟩ (.int .i64 x)) := by
  refine ⟨rangeAt_part ?_ ?_ (fun j hj => ?_) ?_ ?_ ?_, there_setCell h.free _ _ _⟩
  · rw [setCell_ne _ _ _ _ _ (by omega)]; exact h.c0
  · rw [setCell_ne _ _ _ _ _ (by omega)]; exact h.c1
  · rw [setCell_ne _ _ _ _ _ (by omega)]; exact h.c2 j hj
  · exact World.cell?_setCell_same _ _ _ h.c3
  · rw [setCell_ne _ _ _ _ _ (by omega)]; exact h.c4
  · rw [setCell_ne _ _ _ _ _ (by omega)]; exact h.c5
theorem PRow.put4 (h : PRow g kd pl f le mo fa w) (x : Int) : PRow g kd pl f le x fa (w.setCell ⟨g, 259, none⟩ (.int .i64 x)) := by
  refine ⟨rangeAt_part ?_ ?_ (fun j hj => ?_) ?_ ?_ ?_, there_setCell h.free _ _ _⟩
  · rw [setCell_ne _ _ _ _ _ (by omega)]; exact h.c0
  · rw [setCell_ne _ _ _ _ _ (by omega)]; exact h.c1
  · rw [setCell_ne _ _ _ _ _ (by omega)]; exact h.c2 j hj
  · rw [setCell_ne _ _ _ _ _ (by omega)]; exact h.c3
  · exact World.cell?_setCell_same _ _ _ h.c4
  · rw [setCell_ne _ _ _ _ _ (by omega)]; exact h.c5
theorem PRow.put5 (h : PRow g kd pl f le mo fa w) (x : Int) : PRow g kd pl f le mo x (w.setCell ⟨g, 260, none⟩ (.int .i64 x)) := by
  refine ⟨rangeAt_part ?_ ?_ (fun j hj => ?_) ?_ ?_ ?_, there_setCell h.free _ _ _⟩
  · rw [setCell_ne _ _ _ _ _ (by omega)]; exact h.c0
  · rw [setCell_ne _ _ _ _ _ (by omega)]; exact h.c1
  · rw [setCell_ne _ _ _ _ _ (by omega)]; exact h.c2 j hj
  · rw [setCell_ne _ _ _ _ _ (by omega)]; exact h.c3
  · rw [setCell_ne _ _ _ _ _ (by omega)]; exact h.c4
  · exact World.cell?_setCell_same _ _ _ h.c5
theorem PRow.boxed (w : World) (kd pl : Int) (f : Nat → Bool) (le mo fa : Int) (t : TypeId) : PRow w.heap.size kd pl f le mo fa (w.alloc (.cells (partL kd pl f le mo fa).toArray t)) := by
  refine ⟨fun j v hv => ?_, fun j hj => ?_⟩
  · rw [Nat.zero_add, World.cell?_alloc_new]; simpa using hv
  · rw [Nat.zero_add, World.cell?_alloc_new]
    refine ⟨by simp [partL_len, hj], ?_⟩
    go_simp
theorem PRow.alloc (h : PRow g kd pl f le mo fa w) (o : Obj) : PRow g kd pl f le mo fa (w.alloc o) := ⟨World.rangeAt_alloc h.at_ o, World.there_alloc h.free o⟩
theorem PRow.put (h : PRow g kd pl f le mo fa w) (kd' pl' : Int) (f' : Nat → Bool) (le' mo' fa' : Int) : PRow g kd' pl' f' le' mo' fa' (w.setCells g 0 (partL kd' pl' f' le' mo' fa')) :=
  ⟨World.rangeAt_setCells_same _ _ _ _ (by rw [partL_len]; exact h.free), World.there_setCells h.free _ _ _⟩
theorem PRow.far (h : PRow g kd pl f le mo fa w) (b o : Nat) (vs : List Value) (hb : g ≠ b) : PRow g kd pl f le mo fa (w.setCells b o vs) :=
  ⟨World.rangeAt_setCells_apart h.at_ _ _ _ (Or.inl hb), World.there_setCells h.free _ _ _⟩
theorem PRow.far1 (h : PRow g kd pl f le mo fa w) (b o : Nat) (v : Value) (hb : g ≠ b) : PRow g kd pl f le mo fa (w.setCell ⟨b, o, none⟩ v) := h.far b o [v] hb
theorem PRow.below {B : Nat} {w' : World} (h : PRow g kd pl f le mo fa w) (hg : g < B) (hW : Below B w w') : PRow g kd pl f le mo fa w' :=
  ⟨fun j v hv => by rw [hW.cell (p := ⟨g, 0 + j, none⟩) hg]; exact h.at_ j v hv, fun j hj => by rw [hW.cell (p := ⟨g, 0 + j, none⟩) hg, hW.frozen (p := ⟨g, 0 + j, none⟩) hg]; exact h.free j hj⟩
theorem PRow.load (h : PRow g kd pl f le mo fa w) : (loadVar 146 ⟨g, 0, none⟩).run Try.prog w = .ok (.agg (partL kd pl f le mo fa).toArray) w :=
  run_loadVar_mid (P := Try.prog) w g 0 146 _ _ h.at_ Try.underlying146 rfl (by rw [partL_len]; exact info_part)
end

theorem set_part (x y z : Value) : (((partL 0 0 (fun _ => false) 0 0 0).set 0 x).set 1 y).set 260 z = x :: y :: (setL (fun _ => false) ++ [.int .i64 0, .int .i64 0, z]) := by
  simp only [partL, List.set_cons_zero, List.set_cons_succ]
  rw [List.set_append_right _ _ (by rw [setL_len]; omega), setL_len]
  rfl
theorem set_part' (x y z : Int) : (((partL 0 0 (fun _ => false) 0 0 0).set 0 (.int .i64 x)).set 1 (.int .i64 y)).set 260 (.int .i64 z) = partL x y (fun _ => false) 0 0 z := set_part _ _ _
/-- The blank part. -/
def zpart : Obj := .cells (partL 0 0 (fun _ => false) 0 0 0).toArray 146
theorem twoParts (w : World) : PRow w.heap.size 0 0 (fun _ => false) 0 0 0 ((w.alloc (Obj.cells (partL 0 0 (fun _ => false) 0 0 0).toArray 146)).alloc (Obj.cells (partL 0 0 (fun _ => false) 0 0 0).toArray 146)) ∧
    PRow (w.heap.size + 1) 0 0 (fun _ => false) 0 0 0 ((w.alloc (Obj.cells (partL 0 0 (fun _ => false) 0 0 0).toArray 146)).alloc (Obj.cells (partL 0 0 (fun _ => false) 0 0 0).toArray 146)) := by
  refine ⟨(PRow.boxed w ..).alloc _, ?_⟩
  have := PRow.boxed (w.alloc (Obj.cells (partL 0 0 (fun _ => false) 0 0 0).toArray 146)) 0 0 (fun _ => false) 0 0 0 146
  rw [show (w.alloc (Obj.cells (partL 0 0 (fun _ => false) 0 0 0).toArray 146)).heap.size = w.heap.size + 1 by simp] at this
  exact this

theorem PRow.store {g : Nat} {kd pl : Int} {f : Nat → Bool} {le mo fa : Int} {w : World} (h : PRow g kd pl f le mo fa w) (kd' pl' : Int) (f' : Nat → Bool) (le' mo' fa' : Int) :
    (storeCells ⟨g, 0, none⟩ (partL kd' pl' f' le' mo' fa')).run Try.prog w = .ok () (w.setCells g 0 (partL kd' pl' f' le' mo' fa')) := by
  have := run_storeCells_cells (P := Try.prog) g 0 (partL kd' pl' f' le' mo' fa') 0 w (fun j hj => by have := (h.free j (by rw [partL_len] at hj; exact hj)).1; simpa using this) (fun j hj => by have := (h.free j (by rw [partL_len] at hj; exact hj)).2; simpa using this) (partL_one _ _ _ _ _ _)
  simpa using this

theorem PRow.lt {g : Nat} {kd pl : Int} {f : Nat → Bool} {le mo fa : Int} {w : World} (h : PRow g kd pl f le mo fa w) : g < w.heap.size := World.block_lt_of_cell? w _ h.c0
end Go.Proofs.Ytoaaklhpmhjhkaa
