/-
  Contracts of the program's sets of bytes (package pattern, set.go): with, others, isEmpty. A set is an array of 256 bools.
-/
import Derived.Test.YtoaaklhpmhjhkaaRefF
import Derived.Deep.MidRow
import Derived.Test.YtoaaklhpmhjhkaaLawA
import Derived.Test.YtoaaklhpmhjhkaaPlainP
namespace Go.Proofs.Ytoaaklhpmhjhkaa
open Go.RowKit
/-- A set as cells. -/
def setL (f : Nat → Bool) : List Value := (List.range 256).map fun k => .bool (f k)
theorem setL_len (f : Nat → Bool) : (setL f).length = 256 := by simp [setL]
theorem setL_at (f : Nat → Bool) (j : Nat) (v : Value) (h : (setL f)[j]? = some v) : j < 256 ∧ v = .bool (f j) := by
  obtain ⟨hj, h2⟩ := List.getElem?_eq_some_iff.1 h
  have hj' : j < 256 := by rw [setL_len] at hj; exact hj
  refine ⟨hj', ?_⟩
  rw [← h2]; simp [setL]
theorem setL_get (f : Nat → Bool) (j : Nat) (h : j < 256) : (setL f)[j]? = some (.bool (f j)) := by simp [setL, h]
theorem setL_one (f : Nat → Bool) : ∀ v ∈ setL f, v.oneCell' = true := by
  intro v hv; simp only [setL, List.mem_map] at hv; obtain ⟨j, _, rfl⟩ := hv; rfl
theorem setL_congr {f f' : Nat → Bool} (h : ∀ k, k < 256 → f k = f' k) : setL f = setL f' := by
  unfold setL; exact List.map_congr_left fun k hk => by rw [h k (by simpa using hk)]
theorem zero_set (w : World) : (zeroValue 144).run Try.prog w = .ok (.agg (setL fun _ => false).toArray) w := by
  have h : (Try.prog.info? 144).bind (·.zero) = some (.agg (setL fun _ => false).toArray) := by kernel_rfl
  cases hq : Try.prog.info? 144 with
  | none => rw [hq] at h; cases h
  | some i => rw [hq] at h; simp at h; simp [zeroValue, typeInfo, hq, h]
theorem info_set : (Try.prog.info? 144).map (·.size) = some 256 := by kernel_rfl
theorem BRow.range {g : Nat} {f : Nat → Bool} {w : World} (h : BRow g f w) : w.rangeAt g 0 (setL f) := fun j v hv => by
  obtain ⟨hj, rfl⟩ := setL_at f j v hv
  rw [Nat.zero_add]; exact (h j hj).1
theorem BRow.boxed (w : World) (f : Nat → Bool) (t : TypeId) : BRow w.heap.size f (w.alloc (.cells (setL f).toArray t)) := fun k hk => by
  refine ⟨?_, ?_⟩
  · rw [World.cell?_alloc_new]; simp [setL_get f k hk]
  · go_simp
theorem BRow.there {g : Nat} {f : Nat → Bool} {w : World} (h : BRow g f w) : w.there g 0 256 := fun j hj => by
  rw [Nat.zero_add]; exact ⟨by rw [(h j hj).1]; rfl, (h j hj).2⟩
theorem BRow.alloc {g : Nat} {f : Nat → Bool} {w : World} (h : BRow g f w) (o : Obj) : BRow g f (w.alloc o) := fun k hk => by
  have hb := World.block_lt_of_cell? w _ (h k hk).1
  exact ⟨by rw [World.cell?_alloc_lt _ _ _ hb]; exact (h k hk).1, by rw [World.frozen?_alloc_past _ _ _ hb]; exact (h k hk).2⟩
theorem BRow.other {g g' j : Nat} {f : Nat → Bool} {w : World} (h : BRow g f w) (hg : g ≠ g') (v : Value) : BRow g f (w.setCell ⟨g', j, none⟩ v) := fun k hk => by
  obtain ⟨hc, hf⟩ := h k hk
  exact ⟨by rw [World.cell?_setCell_other _ _ _ _ (by intro he; cases he; exact hg rfl)]; exact hc, by rw [World.frozen?_setCell]; exact hf⟩

theorem results_cell1 {fn : Func} {p : Tmp} {ty : TypeId} (h : fn.results = #[.cell p ty]) (tmps : Array Value) (P : Program) (w : World) :
    (results fn tmps).run P w = ((asAddr (tmps.getD p undef)).run P w).andThen fun a w₁ => (loadVar ty a).run P w₁ := by
  simp only [results, h]
  simp [Sem.run_bind, Result.andThen]
theorem results_cell3 {fn : Func} {p u x : Tmp} {ty : TypeId} (h : fn.results = #[.cell p ty, .tmp u, .tmp x]) (tmps : Array Value) (P : Program) (w : World) :
    (results fn tmps).run P w = ((asAddr (tmps.getD p undef)).run P w).andThen fun a w₁ => ((loadVar ty a).run P w₁).andThen fun v w₂ => .ok (.tuple #[v, tmps.getD u undef, tmps.getD x undef]) w₂ := by
  simp only [results, h]
  simp [Sem.run_bind, Result.andThen]

theorem results_load1 {fn : Func} {p : Tmp} {ty : TypeId} {P : Program} {w : World} {ad : Addr} {v : Value} {tmps : Array Value} (h : fn.results = #[.cell p ty]) (ht : tmps.getD p undef = .pointer (some ad)) (hl : (loadVar ty ad).run P w = .ok v w) :
    (results fn tmps).run P w = .ok v w := by
  rw [results_cell1 h, ht]; simp [asAddr, hl]
theorem results_load3 {fn : Func} {p u x : Tmp} {ty : TypeId} {P : Program} {w : World} {ad : Addr} {v b c : Value} {tmps : Array Value} (h : fn.results = #[.cell p ty, .tmp u, .tmp x]) (ht : tmps.getD p undef = .pointer (some ad)) (hl : (loadVar ty ad).run P w = .ok v w) (hb : tmps.getD u undef = b) (hc : tmps.getD x undef = c) :
    (results fn tmps).run P w = .ok (.tuple #[v, b, c]) w := by
  rw [results_cell3 h, ht]; subst hb; subst hc; simp [asAddr, hl]

/-- What 'with' answers. -/
def withTo (f : Nat → Bool) (a b : Int) (n : Nat) : Nat → Bool := fun k => f k || (decide (k < n) && (decide (a ≤ (k : Int)) && decide ((k : Int) ≤ b)))

set_option maxRecDepth 100000 in
set_option maxHeartbeats 1000000 in
theorem with_any (f : Nat → Bool) (a b : Int) (w : World) :
    Calls Try.prog 152 #[.agg (setL f).toArray, .int .i64 a, .int .i64 b] w fun e w' => e = .returned (.agg (setL (Pg.withF f a b)).toArray) ∧ Below w.heap.size w w' := by
  have hz := zero_set (w.alloc (Obj.cells (setL f).toArray 144))
  have hB0 := (BRow.boxed w f 144).alloc (Obj.cells (setL fun _ => false).toArray 144)
  have hC0 := BRow.boxed (w.alloc (Obj.cells (setL f).toArray 144)) (fun _ => false) 144
  have hW0 : Below w.heap.size w ((w.alloc (Obj.cells (setL f).toArray 144)).alloc (Obj.cells (setL fun _ => false).toArray 144)) := ((Below.refl _ _).alloc (Nat.le_refl _) _).alloc (by simp) _
  rw [show (w.alloc (Obj.cells (setL f).toArray 144)).heap.size = w.heap.size + 1 by simp] at hC0
  go_enter Try.func152, Try.ntmps152
  go_wp2_with fail
  clear hz
  go_loopw [7] (fun i w' => ∃ k : Nat, k ≤ 256 ∧ i = .int .i64 k ∧ BRow w.heap.size (withTo f a b k) w' ∧ BRow (w.heap.size + 1) (fun _ => false) w' ∧ Below w.heap.size w w') (fun i _ => 256 - (intOf i).toNat)
  case atStart => exact ⟨0, by omega, rfl, hB0.congr (fun k _ => by simp [withTo]), hC0, hW0⟩
  case round =>
    clear hB0 hC0 hW0
    obtain ⟨k, hk, rfl, hB, hC, hW⟩ := hrel
    by_cases hlt : k < 256
    · obtain ⟨hcc, hff⟩ := hB k hlt
      by_cases ha : a ≤ (k : Int)
      · by_cases hb : (k : Int) ≤ b
        · have hB2 := hB.set k hlt true
          have hC2 := hC.other (j := k) (show w.heap.size + 1 ≠ w.heap.size by omega) (.bool true)
          go_wp2_with fail
          go_roundw
          case rel =>
            refine ⟨k + 1, by omega, by go_num, hB2.congr (fun j _ => ?_), hC2, hW.trans (below_set _ _ _ _)⟩
            by_cases e : j = k
            · subst e; simp [withTo, ha, hb]
            · simp only [if_neg e, withTo, show decide (j < k + 1) = decide (j < k) by simp; omega]
          case measure => simp [intOf]; omega
        · go_wp2_with fail
          go_roundw
          case rel =>
            refine ⟨k + 1, by omega, by go_num, hB.congr (fun j _ => ?_), hC, hW⟩
            by_cases e : j = k
            · subst e; simp [withTo, hb]
            · simp only [withTo, show decide (j < k + 1) = decide (j < k) by simp; omega]
          case measure => simp [intOf]; omega
      · go_wp2_with fail
        go_roundw
        case rel =>
          refine ⟨k + 1, by omega, by go_num, hB.congr (fun j _ => ?_), hC, hW⟩
          by_cases e : j = k
          · subst e; simp [withTo, ha]
          · simp only [withTo, show decide (j < k + 1) = decide (j < k) by simp; omega]
        case measure => simp [intOf]; omega
    · have hr := (hB.congr (f' := Pg.withF f a b) (fun j hj => by simp [withTo, Pg.withF, show j < k by omega])).range
      have ht := hC.there
      go_wp2_with (first | (refine wpList_load_mid rfl 144 _ rfl _ _ rfl (setL (Pg.withF f a b)) _ hr Try.underlying144 rfl (by rw [setL_len]; exact info_set) ?_) | (refine wpList_store_mid rfl 144 _ _ rfl _ _ _ rfl rfl (by simpa [setL_len] using ht) (by simpa [setL_len] using info_set) (all_oneCell_toArray (setL_one _)) ?_))
      have hfin := run_loadVar_mid (P := Try.prog) (wr.setCells (w.heap.size + 1) 0 (setL (Pg.withF f a b))) (w.heap.size + 1) 0 144 (setL (Pg.withF f a b)) _ (World.rangeAt_setCells_same _ _ _ _ (by rw [setL_len]; exact ht)) Try.underlying144 rfl (by rw [setL_len]; exact info_set)
      refine bodyPost_ret (v := .agg (setL (Pg.withF f a b)).toArray) ?_ rfl ⟨rfl, hW.trans (below_setCells _ _ 0 (by omega) _ _ _)⟩
      exact results_load1 Try.results152 (by simp [Act.put]) hfin

def othersTo (f : Nat → Bool) (n : Nat) : Nat → Bool := fun k => if k < n then !f k else f k
set_option maxRecDepth 100000 in
set_option maxHeartbeats 1000000 in
theorem others_any (f : Nat → Bool) (w : World) :
    Calls Try.prog 153 #[.agg (setL f).toArray] w fun e w' => e = .returned (.agg (setL fun k => !f k).toArray) ∧ Below w.heap.size w w' := by
  have hz := zero_set (w.alloc (Obj.cells (setL f).toArray 144))
  have hB0 := (BRow.boxed w f 144).alloc (Obj.cells (setL fun _ => false).toArray 144)
  have hC0 := BRow.boxed (w.alloc (Obj.cells (setL f).toArray 144)) (fun _ => false) 144
  have hW0 : Below w.heap.size w ((w.alloc (Obj.cells (setL f).toArray 144)).alloc (Obj.cells (setL fun _ => false).toArray 144)) := ((Below.refl _ _).alloc (Nat.le_refl _) _).alloc (by simp) _
  rw [show (w.alloc (Obj.cells (setL f).toArray 144)).heap.size = w.heap.size + 1 by simp] at hC0
  go_enter Try.func153, Try.ntmps153
  go_wp2_with fail
  clear hz
  go_loopw [3] (fun i w' => ∃ k : Nat, k ≤ 256 ∧ i = .int .i64 k ∧ BRow w.heap.size (othersTo f k) w' ∧ BRow (w.heap.size + 1) (fun _ => false) w' ∧ Below w.heap.size w w') (fun i _ => 256 - (intOf i).toNat)
  case atStart => exact ⟨0, by omega, rfl, hB0.congr (fun k _ => by simp [othersTo]), hC0, hW0⟩
  case round =>
    clear hB0 hC0 hW0
    obtain ⟨k, hk, rfl, hB, hC, hW⟩ := hrel
    by_cases hlt : k < 256
    · obtain ⟨hcc, hff⟩ := hB k hlt
      have ho : othersTo f k k = f k := by simp [othersTo]
      rw [ho] at hcc
      clear ho
      have hB2 := hB.set k hlt (!f k)
      have hC2 := hC.other (j := k) (show w.heap.size + 1 ≠ w.heap.size by omega) (.bool (!f k))
      go_wp2_with fail
      go_roundw
      case rel =>
        refine ⟨k + 1, by omega, by go_num, hB2.congr (fun j _ => ?_), hC2, hW.trans (below_set _ _ _ _)⟩
        by_cases e : j = k
        · subst e; simp [othersTo]
        · simp only [if_neg e, othersTo, show (j < k + 1) = (j < k) by simp; omega]
      case measure => simp [intOf]; omega
    · have hr := (hB.congr (f' := fun j => !f j) (fun j hj => by simp [othersTo, show j < k by omega])).range
      have ht := hC.there
      go_wp2_with (first | (refine wpList_load_mid rfl 144 _ rfl _ _ rfl (setL fun j => !f j) _ hr Try.underlying144 rfl (by rw [setL_len]; exact info_set) ?_) | (refine wpList_store_mid rfl 144 _ _ rfl _ _ _ rfl rfl (by simpa [setL_len] using ht) (by simpa [setL_len] using info_set) (all_oneCell_toArray (setL_one _)) ?_))
      have hfin := run_loadVar_mid (P := Try.prog) (wr.setCells (w.heap.size + 1) 0 (setL fun j => !f j)) (w.heap.size + 1) 0 144 (setL fun j => !f j) _ (World.rangeAt_setCells_same _ _ _ _ (by rw [setL_len]; exact ht)) Try.underlying144 rfl (by rw [setL_len]; exact info_set)
      refine bodyPost_ret (v := .agg (setL fun j => !f j).toArray) ?_ rfl ⟨rfl, hW.trans (below_setCells _ _ 0 (by omega) _ _ _)⟩
      exact results_load1 Try.results153 (by simp [Act.put]) hfin

theorem cntTo_pos (f : Nat → Bool) (k : Nat) (h : f k = true) : ∀ n, k < n → 0 < Rf.cntTo f n
  | 0, hn => by omega
  | n + 1, hn => by
    unfold Rf.cntTo
    by_cases e : k = n
    · subst e; simp [h]
    · have := cntTo_pos f k h n (by omega); omega

set_option maxRecDepth 100000 in
set_option maxHeartbeats 1000000 in
theorem isEmpty_any (f : Nat → Bool) (w : World) :
    Calls Try.prog 138 #[.agg (setL f).toArray] w fun e w' => e = .returned (.bool (Rf.cntTo f 256 == 0)) ∧ Below w.heap.size w w' := by
  have hB := BRow.boxed w f 144
  go_enter Try.func138, Try.ntmps138
  go_wp2_with fail
  go_loop [3] (fun i => ∃ k : Nat, k ≤ 256 ∧ i = .int .i64 k ∧ Hid (Rf.cntTo f k = 0)) (fun i => 256 - (intOf i).toNat)
  case atStart => exact ⟨0, by omega, rfl, rfl⟩
  case round =>
    obtain ⟨k, hk, rfl, HC⟩ := hrel
    by_cases hlt : k < 256
    · obtain ⟨hcc, hff⟩ := hB k hlt
      cases hf : f k
      · rw [hf] at hcc
        have HC2 : Hid (Rf.cntTo f (k + 1) = 0) := by show _ = _; simp [Rf.cntTo, hf, HC.out]
        clear hf
        go_wp2_with fail
        go_round
        case rel => exact ⟨k + 1, by omega, by go_num, HC2⟩
        case measure => simp [intOf]; omega
      · rw [hf] at hcc
        have HP : Hid (0 < Rf.cntTo f 256) := cntTo_pos f k hf 256 hlt
        clear hf
        go_wp2_with fail
        go_ret
        exact ⟨ret_bool (by have := HP.out; exact (beq_eq_false_iff_ne.2 (by omega)).symm), (Below.refl _ _).alloc (Nat.le_refl _) _⟩
    · have hkk : k = 256 := by omega
      subst hkk
      go_wp2_with fail
      go_ret
      exact ⟨ret_bool (by rw [HC.out]; rfl), (Below.refl _ _).alloc (Nat.le_refl _) _⟩
end Go.Proofs.Ytoaaklhpmhjhkaa
