/-
  Contract of munch.Encode; six calls in whatever order.
-/
import Derived.Test.YtoaaklhpmhjhkabEncK
import Derived.Deep.MidRow
namespace Go.Proofs.Ytoaaklhpmhjhkab
open Go.RowKit

set_option maxHeartbeats 1000000 in
theorem munchEncode_any (T : Tb) (A : TbA) (w : World) (hs : TbSz T) (hI : TbIn T A w) : Calls Try.prog 13 #[.agg (A.cells T)] w (EncPost T w) := by
  have hB0 := bel_box w (.cells (A.cells T) 28)
  have HE : Hid (Calls Try.prog 32 #[.pointer (some ⟨w.heap.size, 0, none⟩)] (w.alloc (.cells (A.cells T) 28)) (EncPost T (w.alloc (.cells (A.cells T) 28)))) := codecEncode_any w.heap.size T A _ hs (TbAt.boxed T A w 28) (hI.below hB0)
  unfold TbA.cells at *
  go_enter Try.func13, Try.ntmps13
  go_wp2_with fail
  refine HE.out.mono ?_
  rintro e w1 ⟨hB1, h⟩
  have hW1 := hB0.trans (hB1.mono hB0.size)
  rcases h with ⟨hS, rfl⟩ | ⟨hS, rfl⟩
  · go_wp2_with fail
    go_ret2
    exact ⟨hW1, Or.inl ⟨hS, rfl⟩⟩
  · go_wp2_with fail
    go_ret2
    exact ⟨hW1, Or.inr ⟨hS, rfl⟩⟩

theorem info_tables : (Try.prog.info? 28).map (·.size) = some 7 := by kernel_rfl
def zeroT : Array Value := #[.int .i64 0, .slice none 0 0, .slice none 0 0, .slice none 0 0, .slice none 0 0, .slice none 0 0, .slice none 0 0]
theorem zero_tables (w : World) : (zeroValue 28).run Try.prog w = .ok (.agg #[.int .i64 0, .slice none 0 0, .slice none 0 0, .slice none 0 0, .slice none 0 0, .slice none 0 0, .slice none 0 0]) w := by
  have h : (Try.prog.info? 28).bind (·.zero) = some (.agg #[.int .i64 0, .slice none 0 0, .slice none 0 0, .slice none 0 0, .slice none 0 0, .slice none 0 0, .slice none 0 0]) := by kernel_rfl
  cases hq : Try.prog.info? 28 with
  | none => rw [hq] at h; cases h
  | some i => rw [hq] at h; simp at h; simp [zeroValue, typeInfo, hq, h]

/-- Where lists lie that were handed in. -/
structure HAd where
  g1 : Nat
  g2 : Nat
  g3 : Nat
  g4 : Nat
  g5 : Nat
  g6 : Nat
def HAd.tb (G : HAd) (T : Tb) : TbA := ⟨some ⟨G.g1, 0, none⟩, T.ncl + 3, some ⟨G.g2, 0, none⟩, T.nlb + 3, some ⟨G.g3, 0, none⟩, T.nbs + 3, some ⟨G.g4, 0, none⟩, T.ndf + 3, some ⟨G.g5, 0, none⟩, T.nck + 3, some ⟨G.g6, 0, none⟩, T.nnx + 3⟩
structure HRows (G : HAd) (T : Tb) (w : World) : Prop where
  r1 : NRow G.g1 (handedI T.cl T.ncl) (T.ncl + 3) w
  r2 : NRow G.g2 (handedI T.lb T.nlb) (T.nlb + 3) w
  r3 : NRow G.g3 (handedI T.bs T.nbs) (T.nbs + 3) w
  r4 : NRow G.g4 (handedI T.df T.ndf) (T.ndf + 3) w
  r5 : NRow G.g5 (handedI T.ck T.nck) (T.nck + 3) w
  r6 : NRow G.g6 (handedI T.nx T.nnx) (T.nnx + 3) w
theorem HRows.below {G : HAd} {T : Tb} {w w' : World} (h : HRows G T w) (hW : Below w.heap.size w w') : HRows G T w' :=
  ⟨h.r1.below hW, h.r2.below hW, h.r3.below hW, h.r4.below hW, h.r5.below hW, h.r6.below hW⟩
theorem NRow.block {g : Nat} {f : Nat → Int} {n : Nat} {w w' : World} (h : NRow g f n w) (hb : w'.heap[g]? = w.heap[g]?) : NRow g f n w' := fun k hk => by
  rw [World.cell?_of_block (w := w) (a := ⟨g, k, none⟩) hb, World.frozen?_of_block (w := w) (a := ⟨g, k, none⟩) hb]; exact h k hk
/-- What handedTables leaves. -/
def HPost (T : Tb) (w : World) (e : Ending) (w' : World) : Prop := ∃ G : HAd, e = .returned (.agg ((G.tb T).cells T)) ∧ HRows G T w' ∧ Below w.heap.size w w'
theorem eResults_cell1 {fn : Func} {p : Tmp} {ty : TypeId} (h : fn.results = #[.cell p ty]) (tmps : Array Value) (P : Program) (w : World) :
    (results fn tmps).run P w = ((asAddr (tmps.getD p undef)).run P w).andThen fun a w₁ => (loadVar ty a).run P w₁ := by
  simp only [results, h]
  simp [Sem.run_bind, Result.andThen]
theorem eResults_load1 {fn : Func} {p : Tmp} {ty : TypeId} {P : Program} {w : World} {ad : Addr} {v : Value} {tmps : Array Value} (h : fn.results = #[.cell p ty]) (ht : tmps.getD p undef = .pointer (some ad)) (hl : (loadVar ty ad).run P w = .ok v w) :
    (results fn tmps).run P w = .ok v w := by
  rw [eResults_cell1 h, ht]; simp [asAddr, hl]

end Go.Proofs.Ytoaaklhpmhjhkab
