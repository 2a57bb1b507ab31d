/-
  munchkeep's filed and lexer.
-/
import Derived.Test.YtoaaklhpmhjhkaaPkH
import Derived.Test.YtoaaklhpmhjhkaaRtB
import Derived.Test.YtoaaklhpmhjhkaaEncM
import Derived.Test.YtoaaklhpmhjhkaaLdF
import Derived.StillTailTactics
namespace Go.Proofs.Ytoaaklhpmhjhkaa
open Go.RowKit
open Bm

theorem wpStill_loadK {P : Program} {ops : Array Oper} {rest : List Oper} {op : Oper} {a : Act} {w : World} {Q : Act → Prop} (hw : Region.wanted op (yielded ops a.tmps) = true) (ty : TypeId) (x : Operand) (ho : op.op = .load ty x)
    (b o : Nat) (hx : a.eval x = .pointer (some ⟨b, o, none⟩)) (cs : List Value) (d : TypeDesc) (hc : w.rangeAt b o cs)
    (hu : P.underlying ty = some d) (hd : d.isRow = true) (hi : (P.info? ty).map (·.size) = some cs.length)
    (h : wpStill P ops w Q rest (a.put op.dst (.agg cs.toArray))) : wpStill P ops w Q (op :: rest) a :=
  wpStill_step fun K hK => by
    rw [if_pos hw]
    unfold Oper.still execOp
    simp only [ho, hx, Instr.loadAt, Instr.sureAddr, Sem.run_bind, Sem.run_pure, Result.andThen_ok, run_loadVar_mid w b o ty cs d hc hu hd hi]
    exact ⟨rfl, hK _ h⟩
theorem wpOp_valK {P : Program} {ops : Array Oper} {Q : Exit → Act → World → Prop} {i : Nat} {o : Oper} {K : Act → World → Prop} {a : Act} {w w' : World} {v : Value} (ho : ops[i]? = some o) (hw : Region.wanted o (yielded ops a.tmps) = true)
    (hr : (execOp a.eval o).run P w = .ok (.value v) w') (h : K (a.put o.dst v) w') : wpOp P ops Q i K a w :=
  wpOp_step ho fun K' hK => by
    rw [if_pos hw]
    unfold Oper.wp
    rw [hr]
    exact hK _ _ h
theorem run_op_loadK {P : Program} {o : Oper} {a : Act} {w : World} (ty : TypeId) (x : Operand) (ho : o.op = .load ty x) (b c : Nat) (hx : a.eval x = .pointer (some ⟨b, c, none⟩)) (cs : List Value) (d : TypeDesc) (hc : w.rangeAt b c cs)
    (hu : P.underlying ty = some d) (hd : d.isRow = true) (hi : (P.info? ty).map (·.size) = some cs.length) : (execOp a.eval o).run P w = .ok (.value (.agg cs.toArray)) w := by
  unfold execOp
  simp only [ho, hx, Instr.loadAt, Instr.sureAddr, Sem.run_bind, Sem.run_pure, Result.andThen_ok, run_loadVar_mid w b c ty cs d hc hu hd hi]
theorem wpAny_seq_fromK {P : Program} {md : Region.Mode} {ops : List Oper} {Q : Exit → Act → World → Prop} {fuel : Nat} {listed : Array Bool} {a : Act} {w : World} (k : Nat) (hf : (ops.drop k).length = fuel) (hB : Region.seqB md ops.toArray fuel k listed = true)
    (h : wpList P ops.toArray Q (ops.drop k) a w) : wpAny P md ops.toArray Q fuel listed a w := by
  subst hf
  exact wpAny_of_seq (ops.drop k) k listed a w (fun j => by simp [List.getElem?_drop]) hB h
theorem eResults_mid {fn : Func} {p q u : Tmp} {ty : TypeId} (h : fn.results = #[.tmp p, .cell q ty, .tmp u]) (tmps : Array Value) (P : Program) (w : World) :
    (results fn tmps).run P w = ((asAddr (tmps.getD q undef)).run P w).andThen fun a w₁ => ((loadVar ty a).run P w₁).andThen fun v w₂ => .ok (.tuple #[tmps.getD p undef, v, tmps.getD u undef]) w₂ := by
  simp only [results, h]
  simp [Sem.run_bind, Result.andThen]
theorem eResults_loadm {fn : Func} {p q u : Tmp} {ty : TypeId} {P : Program} {w : World} {ad : Addr} {v a b : Value} {tmps : Array Value} (h : fn.results = #[.tmp p, .cell q ty, .tmp u]) (ht : tmps.getD q undef = .pointer (some ad)) (hl : (loadVar ty ad).run P w = .ok v w) (ha : tmps.getD p undef = a) (hb : tmps.getD u undef = b) :
    (results fn tmps).run P w = .ok (.tuple #[a, v, b]) w := by
  rw [eResults_mid h, ht]; subst ha; subst hb; simp [asAddr, hl]
/-- The file of a machine. -/
def mfile (M : Mc) : ByteArray := ⟨(fileL (packT M)).toArray⟩
/-- What filed leaves. -/
def FiledPost (M : Mc) (w : World) (e : Ending) (w' : World) : Prop :=
  ∃ g1 g2 vb vd vc vn, e = .returned (.tuple #[.string (mfile M), .agg (pkCells M g1 g2 vb vd vc vn), .bool true]) ∧ PkL w.heap.size M g1 g2 vb vd vc vn w' ∧ Below w.heap.size w w'

set_option maxRecDepth 100000 in
set_option maxHeartbeats 4000000 in
theorem filed_any (M : Mc) (A : McA) (w : World) (hS : SndM M) (hI : McIn M A w) : Calls Try.prog 26 #[.agg (A.cells M)] w (FiledPost M w) := by
  have hz := zero_tables
  have hsz : McSz M := by
    have h1 := hS.ncl
    have h2 := hS.hd.2.1
    have h3 : M.nnx ≤ 24576 := by rw [hS.e]; exact Nat.mul_le_mul h2.2 hS.k1.2
    exact ⟨by omega, by omega, by omega⟩
  obtain ⟨W0, hW0⟩ : ∃ W, W = w.alloc (.cells (A.cells M) 49) := ⟨_, rfl⟩
  obtain ⟨W1, hW1⟩ : ∃ W, W = W0.alloc (.cells #[.int .i64 0, .slice none 0 0, .slice none 0 0, .slice none 0 0, .slice none 0 0, .slice none 0 0, .slice none 0 0] 26) := ⟨_, rfl⟩
  have x0 : Below w.heap.size w W0 := by rw [hW0]; exact bel_box _ _
  have x1 : Below W0.heap.size W0 W1 := by rw [hW1]; exact bel_box _ _
  have z0 : W0.heap.size = w.heap.size + 1 := by rw [hW0]; simp
  have hT1 : W1.there W0.heap.size 0 7 := by rw [hW1]; exact zeroT_there W0 _
  have x2 := x0.trans (x1.mono x0.size)
  have hA1 : McAt w.heap.size M A W1 := by
    have h : McAt w.heap.size M A W0 := by rw [hW0]; exact McAt.boxed M A w _
    exact h.below x1
  have HE : Hid (Calls Try.prog 51 #[.agg (A.cells M)] W1 (PackPost M W1)) := munchPack_any M A _ hsz (hI.below x2)
  obtain ⟨d0, d1, d2, d3⟩ := hA1
  rw [z0] at hT1
  have z1 : W1.heap.size = w.heap.size + 2 := by rw [hW1]; simp [z0]
  rw [hW0] at hW1
  rw [hW1] at d0 d1 d2 d3
  have HX : Hid (Below w.heap.size w W1) := x2
  have Hz1 : Hid (W1.heap.size = w.heap.size + 2) := z1
  have HSn : Hid (SndM M) := hS
  unfold McA.cells at hW1 HE d0 d1 d2 d3 ⊢
  clear x0 x1 z0 hW0 hI hsz x2 z1 hS
  go_enter Try.func26, Try.ntmps26
  go_wp2_with fail
  rw [← hW1]
  clear hW1 d0 d1 d2 d3
  refine HE.out.mono ?_
  rintro e w1 ⟨hB1, h⟩
  clear HE
  rcases h with ⟨hS, _⟩ | ⟨hS, g1, g2, vb, vd, vc, vn, rfl, hP⟩
  · exact absurd HSn.out hS
  have hT2 := there_below hT1 (by omega) hB1
  have HBw : Hid (Below w.heap.size w w1) := HX.out.trans (hB1.mono HX.out.size)
  have hP2 := hP
  have Hlt : Hid (w.heap.size + 1 < w1.heap.size) := by
    have := Hz1.out
    have := hB1.size
    show w.heap.size + 1 < w1.heap.size
    omega
  obtain ⟨A2, hA2, hI2⟩ := hP.tb
  clear hT1 hB1 hS
  rw [hA2]
  obtain ⟨W3, hW3⟩ : ∃ W, W = w1.alloc (.cells (A2.cells (packT M)) 26) := ⟨_, rfl⟩
  have b3 : Below w1.heap.size w1 W3 := by rw [hW3]; exact bel_box _ _
  have hAt : TbAt w1.heap.size (packT M) A2 W3 := by rw [hW3]; exact TbAt.boxed _ _ _ _
  have HEn : Hid (Calls Try.prog 39 #[.agg (A2.cells (packT M))] W3 (EncPost (packT M) W3)) := munchEncode_any (packT M) A2 W3 (packT_sz HSn.out) (hI2.below b3)
  have hP3 : PkL W1.heap.size M g1 g2 vb vd vc vn W3 := hP2.keep (fun q _ hq => b3.block q hq) (by rw [HSn.out.ncl]; omega) (by have := HSn.out.hd.2.1; omega)
  have hT3 := there_below hT2 (by omega) b3
  obtain ⟨d0, d1, d2, d3, d4, d5, d6⟩ := hAt
  rw [hW3] at d0 d1 d2 d3 d4 d5 d6
  have HrT : Hid (W3.rangeAt w1.heap.size 0 (A2.cells (packT M)).toList) := by
    intro k v hv
    rw [hW3, Nat.zero_add, World.cell?_alloc_new]
    simpa using hv
  have Hb3 : Hid (Below w1.heap.size w1 W3) := b3
  have HA2 : Hid (pkCells M g1 g2 vb vd vc vn = A2.cells (packT M)) := hA2
  unfold TbA.cells at hW3 HEn ⊢
  clear hP hP2 hI2 hT2 b3 hA2
  go_wp2_with fail
  rw [← hW3]
  clear hW3 d0 d1 d2 d3 d4 d5 d6
  refine HEn.out.mono ?_
  rintro e w4 ⟨hB4, h⟩
  clear HEn
  rcases h with ⟨hSd, rfl⟩ | ⟨hSd, rfl⟩
  case inr => exact absurd (packT_snd HSn.out) hSd
  have hT4 := there_below hT3 (by omega) hB4
  have hP4 : PkL W1.heap.size M g1 g2 vb vd vc vn w4 := hP3.keep (fun q _ hq => hB4.block q hq) (by rw [HSn.out.ncl]; omega) (by have := HSn.out.hd.2.1; omega)
  have HrT4 : Hid (w4.drew.rangeAt w1.heap.size 0 (A2.cells (packT M)).toList) := by
    intro k v hv
    have h := HrT.out k v hv
    have hlt := World.block_lt_of_cell? W3 _ h
    rw [show w4.drew.cell? ⟨w1.heap.size, 0 + k, none⟩ = w4.cell? ⟨w1.heap.size, 0 + k, none⟩ from rfl, hB4.cell (p := ⟨w1.heap.size, 0 + k, none⟩) hlt]; exact h
  have HB4 : Hid (Below w.heap.size w w4) := HBw.out.trans ((Hb3.out.trans (hB4.mono Hb3.out.size)).mono HBw.out.size)
  clear hP3 hT3 hB4 HrT hSd
  go_wp2_with fail
  refine wp_region_any (by kernel_rfl) ?_
  change wpAny _ _ _ _ 7 _ _ w4.drew
  refine wpAny_take (i := 0) (oi := ?o0) (v := ?v0) ?hi0 ?hs0 ?hf0 ?hr0 ?hQ0 (Or.inl ⟨?hw0, ?hy0⟩) ?rest0
  case hi0 => simp only [List.getElem?_toArray, List.getElem?_cons_zero]; rfl
  case hs0 => kernel_rfl
  case hf0 => kernel_rfl
  case hr0 => kernel_rfl
  case hQ0 => exact fun _ _ _ h => h
  case hw0 => rfl
  case hy0 => intro w'; go_simp; first | done | with_reducible rfl
  (try simp only [Act.put, List.setIfInBounds_toArray, List.set_cons_zero, List.set_cons_succ])
  refine wpAny_take (i := 2) (oi := ?o2) (v := ?v2) ?hi2 ?hs2 ?hf2 ?hr2 ?hQ2 (Or.inl ⟨?hw2, ?hy2⟩) ?rest2
  case hi2 => simp only [List.getElem?_toArray, List.getElem?_cons_succ, List.getElem?_cons_zero]; rfl
  case hs2 => kernel_rfl
  case hf2 => kernel_rfl
  case hr2 => kernel_rfl
  case hQ2 => exact fun _ _ _ h => h
  case hw2 => rfl
  case hy2 => intro w'; go_simp; first | done | with_reducible rfl
  (try simp only [Act.put, List.setIfInBounds_toArray, List.set_cons_zero, List.set_cons_succ])
  refine wpAny_take (i := 3) (oi := ?o3) (v := ?v3) ?hi3 ?hs3 ?hf3 ?hr3 ?hQ3 (Or.inl ⟨?hw3, ?hy3⟩) ?rest3
  case hi3 => simp only [List.getElem?_toArray, List.getElem?_cons_succ, List.getElem?_cons_zero]; rfl
  case hs3 => kernel_rfl
  case hf3 => kernel_rfl
  case hr3 => kernel_rfl
  case hQ3 => exact fun _ _ _ h => h
  case hw3 => rfl
  case hy3 => intro w'; go_simp; first | done | with_reducible rfl
  (try simp only [Act.put, List.setIfInBounds_toArray, List.set_cons_zero, List.set_cons_succ])
  refine wpAny_take (i := 4) (oi := ?o4) (v := ?v4) ?hi4 ?hs4 ?hf4 ?hr4 ?hQ4 (Or.inl ⟨?hw4, ?hy4⟩) ?rest4
  case hi4 => simp only [List.getElem?_toArray, List.getElem?_cons_succ, List.getElem?_cons_zero]; rfl
  case hs4 => kernel_rfl
  case hf4 => kernel_rfl
  case hr4 => kernel_rfl
  case hQ4 => exact fun _ _ _ h => h
  case hw4 => rfl
  case hy4 => intro w'; go_simp; first | done | with_reducible rfl
  (try simp only [Act.put, List.setIfInBounds_toArray, List.set_cons_zero, List.set_cons_succ])
  refine wpAny_all (rs := [1]) (by kernel_rfl) (by simp) (fun q hq => ?_)
  rw [List.mem_singleton.1 hq]
  clear hq q
  refine wpOp_valK (o := ?o1) (v := .agg (A2.cells (packT M))) ?hi1 ?hw1 (run_op_loadK 26 (.tmp 5) ?ho1 w1.heap.size 0 ?hx1 (A2.cells (packT M)).toList _ HrT4.out Try.underlying26 rfl info_tables) ?rest1
  case hi1 => simp only [List.getElem?_toArray, List.getElem?_cons_succ, List.getElem?_cons_zero]; rfl
  case hw1 => rfl
  case ho1 => rfl
  case hx1 => rfl
  (try simp only [Act.put, List.setIfInBounds_toArray, List.set_cons_zero, List.set_cons_succ])
  refine wpAny_seq_fromK 5 (by rfl) (by kernel_rfl) ?_
  simp only [List.drop_succ_cons, List.drop_zero]
  have hTd : w4.drew.there (w.heap.size + 1) 0 7 := hT4
  obtain ⟨C, hC⟩ : ∃ C, C = A2.cells (packT M) := ⟨_, rfl⟩
  have hone : C.all (·.oneCell') = true := by rw [hC, ← HA2.out]; exact hP4.one
  have hCs : C.size = 7 := by rw [hC]; rfl
  rw [← hC]
  obtain ⟨W9, hW9⟩ : ∃ W, W = w4.drew.setCells (w.heap.size + 1) 0 C.toList := ⟨_, rfl⟩
  have hl9 : (loadVar 26 ⟨w.heap.size + 1, 0, none⟩).run Try.prog W9 = .ok (.agg C) W9 := by
    rw [hW9]
    have := run_loadVar_mid (P := Try.prog) _ (w.heap.size + 1) 0 26 C.toList _ (World.rangeAt_setCells_same w4.drew (w.heap.size + 1) 0 C.toList (by rw [Array.length_toList, hCs]; exact hTd)) Try.underlying26 rfl (by rw [Array.length_toList, hCs]; exact info_tables)
    simpa using this
  have hg := setCells_grown (w.heap.size + 1) C.toList 0 w4.drew
  rw [← hW9] at hg
  have hp9 : FiledPost M w (.returned (.tuple #[.string (mfile M), .agg C, .bool true])) W9 := by
    refine ⟨g1, g2, vb, vd, vc, vn, by rw [HA2.out, hC], ?_, ?_⟩
    · refine (PkL.keep (B := W1.heap.size) (W := w4.drew) ?_ (fun q hq1 hq2 => hg.block q hq2 (fun e => ?_)) (by rw [HSn.out.ncl]; omega) (by have := HSn.out.hd.2.1; omega)).mono HX.out.size
      · exact hP4.keep (fun q _ _ => rfl) (by rw [HSn.out.ncl]; omega) (by have := HSn.out.hd.2.1; omega)
      · have := Option.some.inj e
        have := Hz1.out
        omega
    · exact (HB4.out.trans ((Below.refl _ _).drew)).grown hg HB4.out.size (fun q hq => by cases hq; exact Nat.le_succ _)
  have HP9 : Hid (FiledPost M w (.returned (.tuple #[.string (mfile M), .agg C, .bool true])) W9) := hp9
  have HW9 : Hid (W9 = w4.drew.setCells (w.heap.size + 1) 0 C.toList) := hW9
  have HL9 : Hid ((loadVar 26 ⟨w.heap.size + 1, 0, none⟩).run Try.prog W9 = .ok (.agg C) W9) := hl9
  have HT3 : Hid (w4.drew.there (w.heap.size + 1) 0 C.size) := by show w4.drew.there _ 0 C.size; rw [hCs]; exact hTd
  have HIf : Hid ((Try.prog.info? 26).map (·.size) = some C.size) := by show _ = _; rw [hCs]; exact info_tables
  have HOn : Hid (C.all (·.oneCell') = true) := hone
  clear hp9 hW9 hl9 hC hP4 hCs hg hT4 hTd hone
  go_wp2_with (first | (refine wpList_store_mid rfl 26 _ _ rfl (w.heap.size + 1) 0 C rfl rfl HT3.out HIf.out HOn.out ?_; rw [← HW9.out]))
  refine bodyPost_ret (v := .tuple #[.string (mfile M), .agg C, .bool true]) (eResults_loadm Try.results26 rfl HL9.out rfl rfl) rfl HP9.out
/-- A file that is taken. -/
theorem Good.not {s : ByteArray} {c : Int} (h : Good s) (h' : DecIs s c) : False := by
  rcases h' with ⟨h1, _⟩ | ⟨_, h1, _⟩ | ⟨_, _, h1, _⟩ | ⟨_, _, _, h1, _⟩
  · have := h.1; rw [h1] at this; cases this
  · exact h1 h.2.1
  · have := h.2.2.1; rw [h1] at this; cases this
  · exact h1 h.2.2.2
/-- What lexer leaves. -/
def LexPost (s : ByteArray) (w : World) (e : Ending) (w' : World) : Prop :=
  ∃ (b : Nat) (A : TbA), e = .returned (.tuple #[.pointer (some ⟨b, 0, none⟩), .bool true]) ∧ w.heap.size ≤ b ∧ TbAt b (fileT s) A w' ∧ TbF w.heap.size (fileT s) A w' ∧ Below w.heap.size w w'

set_option maxHeartbeats 1000000 in
theorem lexer_any (s : ByteArray) (w : World) (hs : s.size ≤ 140737488355328) (hG : Good s) : Calls Try.prog 27 #[.string s] w (LexPost s w) := by
  have HD : Hid (Calls Try.prog 42 #[.string s] w (LoadPost s w)) := load_any s w (by omega)
  have HG : Hid (Good s) := hG
  clear hG
  go_enter Try.func27, Try.ntmps27
  go_wp2_with fail
  refine HD.out.mono ?_
  rintro e w1 ⟨hB1, h⟩
  rcases h with ⟨c, hc, _⟩ | ⟨_, b, A, rfl, hb, hA, hF⟩
  · exact absurd hc HG.out.not
  have HA : Hid (TbAt b (fileT s) A w1) := hA
  have HF : Hid (TbF w.heap.size (fileT s) A w1) := hF
  clear hA hF
  go_wp2_with fail
  go_ret2
  exact ⟨b, A, by first | rfl | trivial, hb, HA.out, HF.out, hB1⟩
end Go.Proofs.Ytoaaklhpmhjhkaa
