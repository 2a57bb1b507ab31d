/-
  Contracts of the program's readCount, readSet, readPlace, readPart.
-/
import Derived.Test.YtoaaklhpmhjhkaaPartA
import Derived.Test.YtoaaklhpmhjhkaaLeafB
import Derived.Test.YtoaaklhpmhjhkaaPlainQ
namespace Go.Proofs.Ytoaaklhpmhjhkaa
open Go.RowKit

/-- What a reader of a part leaves: the place and whether it went; if it went, the part. -/
def TPost (w : World) (kd pl n : Int) (ok : Bool) (f : Nat → Bool) (mo fa : Int) (e : Ending) (w' : World) : Prop :=
  ∃ (kd' pl' : Int) (f' : Nat → Bool) (le' mo' fa' : Int), e = .returned (.tuple #[.agg (partL kd' pl' f' le' mo' fa').toArray, .int .i64 n, .bool ok]) ∧ Below w.heap.size w w' ∧
    (ok = true → kd' = kd ∧ pl' = pl ∧ f' = f ∧ mo' = mo ∧ fa' = fa)

set_option maxRecDepth 100000 in
set_option maxHeartbeats 1000000 in
theorem readCount_any (s : ByteArray) (i : Int) (w : World) (h0 : 0 ≤ i) (h1 : i ≤ 300) :
    Calls Try.prog 148 #[.string s, .int .i64 i] w (TPost w 8 i (Pg.readCount (bat s) i).n (Pg.readCount (bat s) i).ok (fun _ => false) (Pg.readCount (bat s) i).v (Pg.countFalls (bat s) i)) := by
  have HN : Hid (Pg.readCount (bat s) i = if Pg.digitValue (bat s (i + 1)) < 0 then ⟨0, i + 1, false⟩ else Pg.readMost (bat s) (i + 2) (Pg.digitValue (bat s (i + 1)))) := rfl
  have hz := zero_part
  have hsp := set_part'
  obtain ⟨hP0, hP1⟩ := twoParts w
  have hst := hP1.store 8 i (fun _ => false) 0 0 (-1)
  have hQ1 := hP1.put 8 i (fun _ => false) 0 0 (-1)
  have hQ0 := hP0.far (w.heap.size + 1) 0 (partL 8 i (fun _ => false) 0 0 (-1)) (by omega)
  have hB : Below w.heap.size w (((w.alloc (Obj.cells (partL 0 0 (fun _ => false) 0 0 0).toArray 146)).alloc (Obj.cells (partL 0 0 (fun _ => false) 0 0 0).toArray 146)).setCells (w.heap.size + 1) 0 (partL 8 i (fun _ => false) 0 0 (-1))) := (((Below.refl _ _).alloc (Nat.le_refl _) _).alloc (by simp) _).trans (below_setCells _ _ 0 (by omega) _ _ _)
  clear hP0 hP1
  go_enter Try.func148, Try.ntmps148
  go_wp2_with fail
  clear hst hz hsp
  generalize (((w.alloc (Obj.cells (partL 0 0 (fun _ => false) 0 0 0).toArray 146)).alloc (Obj.cells (partL 0 0 (fun _ => false) 0 0 0).toArray 146)).setCells (w.heap.size + 1) 0 (partL 8 i (fun _ => false) 0 0 (-1))) = W at *
  refine (byteAt_any s (i + 1) _).mono ?_
  rintro e W ⟨rfl, rfl⟩
  have hc3 := hQ1.c3
  have hf3 := hQ1.fr 258 (by omega)
  have hR1 := hQ1.put3 (Pg.digitValue (bat s (i + 1)))
  have hR0 := hQ0.far1 (w.heap.size + 1) 258 (.int .i64 (Pg.digitValue (bat s (i + 1)))) (by omega)
  have hBR := hB.trans ((Below.refl w.heap.size W).setCell (p := ⟨w.heap.size + 1, 258, none⟩) (by simp) (.int .i64 (Pg.digitValue (bat s (i + 1)))))
  clear hQ1 hQ0 hB
  go_wp2_with fail
  refine (digitValue_any _ _).mono ?_
  rintro e W ⟨rfl, rfl⟩
  by_cases c1 : Pg.digitValue (bat s (i + 1)) < 0
  · have HR : Hid (Pg.readCount (bat s) i = ⟨0, i + 1, false⟩) := by show _ = _; rw [HN.out, if_pos c1]
    go_wp2_with (first | (with_reducible show wpList _ _ _ ({ dst := _, op := Op.load 146 _, type := _, pos := _, after := _, guard := _ } :: _) _ _; refine wpList_load_mid rfl 146 _ rfl _ _ rfl _ _ hR1.at_ Try.underlying146 rfl (by rw [partL_len]; exact info_part) ?_) | (with_reducible show wpList _ _ _ ({ dst := _, op := Op.store 146 _ _, type := _, pos := _, after := _, guard := _ } :: _) _ _; refine wpList_store_mid rfl 146 _ _ rfl _ _ _ rfl rfl (by simpa [partL_len] using hR0.free) (by simpa [partL_len] using info_part) (all_oneCell_toArray (partL_one _ _ _ _ _ _)) ?_))
    have hfin := (hR0.put 8 i (fun _ => false) (Pg.digitValue (bat s (i + 1))) 0 (-1)).load
    refine bodyPost_ret (v := .tuple #[.agg (partL 8 i (fun _ => false) (Pg.digitValue (bat s (i + 1))) 0 (-1)).toArray, .int .i64 (i + 1), .bool false]) (results_load3 Try.results148 (by simp) hfin (by simp) (by simp)) rfl ?_
    rw [HR.out]
    exact ⟨_, _, _, _, _, _, rfl, hBR.trans (below_setCells _ _ 0 (Nat.le_refl _) _ _ _), fun h => by cases h⟩
  · have HR : Hid (Pg.readCount (bat s) i = Pg.readMost (bat s) (i + 2) (Pg.digitValue (bat s (i + 1)))) := by show _ = _; rw [HN.out, if_neg c1]
    have HF : Hid (Pg.countFalls (bat s) i = if (Pg.readMost (bat s) (i + 2) (Pg.digitValue (bat s (i + 1)))).v < Pg.digitValue (bat s (i + 1)) then i else -1) := by show _ = _; rw [Pg.countFalls, HR.out]
    have hc3' := hR1.c3
    go_wp2_with fail
    refine (readMost_any s (i + 2) _ _ (by omega) (by omega)).mono ?_
    rintro e W2 ⟨rfl, rfl⟩
    generalize W.setCell ⟨w.heap.size + 1, 258, none⟩ (Value.int .i64 (Pg.digitValue (bat s (i + 1)))) = V at *
    clear hc3 hf3 hc3' HN
    generalize Pg.readMost (bat s) (i + 2) (Pg.digitValue (bat s (i + 1))) = r at *
    generalize Pg.digitValue (bat s (i + 1)) = le at *
    obtain ⟨mo, n, ok⟩ := r
    have hc3 := hR1.c3
    have hc4 := hR1.c4
    have hf4 := hR1.fr 259 (by omega)
    cases ok
    · go_wp2_with (first | (with_reducible show wpList _ _ _ ({ dst := _, op := Op.load 146 _, type := _, pos := _, after := _, guard := _ } :: _) _ _; refine wpList_load_mid rfl 146 _ rfl _ _ rfl _ _ hR1.at_ Try.underlying146 rfl (by rw [partL_len]; exact info_part) ?_) | (with_reducible show wpList _ _ _ ({ dst := _, op := Op.store 146 _ _, type := _, pos := _, after := _, guard := _ } :: _) _ _; refine wpList_store_mid rfl 146 _ _ rfl _ _ _ rfl rfl (by simpa [partL_len] using hR0.free) (by simpa [partL_len] using info_part) (all_oneCell_toArray (partL_one _ _ _ _ _ _)) ?_))
      have hfin := (hR0.put 8 i (fun _ => false) le 0 (-1)).load
      refine bodyPost_ret (v := .tuple #[.agg (partL 8 i (fun _ => false) le 0 (-1)).toArray, .int .i64 n, .bool false]) (results_load3 Try.results148 (by simp) hfin (by simp) (by simp)) rfl ?_
      rw [HR.out, HF.out]
      exact ⟨_, _, _, _, _, _, rfl, hBR.trans (below_setCells _ _ 0 (Nat.le_refl _) _ _ _), fun h => by cases h⟩
    · have hS1 := hR1.put4 mo
      have hS0 := hR0.far1 (w.heap.size + 1) 259 (.int .i64 mo) (by omega)
      have hBS := hBR.trans ((Below.refl w.heap.size V).setCell (p := ⟨w.heap.size + 1, 259, none⟩) (by simp) (.int .i64 mo))
      have hd3 := hS1.c3
      have hd4 := hS1.c4
      have hd5 := hS1.c5
      have hg5 := hS1.fr 260 (by omega)
      have hU1 := hS1.put5 i
      have hU0 := hS0.far1 (w.heap.size + 1) 260 (.int .i64 i) (by omega)
      have hBU := hBS.trans ((Below.refl w.heap.size (V.setCell ⟨w.heap.size + 1, 259, none⟩ (.int .i64 mo))).setCell (p := ⟨w.heap.size + 1, 260, none⟩) (by simp) (.int .i64 i))
      by_cases c2 : mo < le
      · go_wp2_with (first | (with_reducible show wpList _ _ _ ({ dst := _, op := Op.load 146 _, type := _, pos := _, after := _, guard := _ } :: _) _ _; refine wpList_load_mid rfl 146 _ rfl _ _ rfl _ _ hU1.at_ Try.underlying146 rfl (by rw [partL_len]; exact info_part) ?_) | (with_reducible show wpList _ _ _ ({ dst := _, op := Op.store 146 _ _, type := _, pos := _, after := _, guard := _ } :: _) _ _; refine wpList_store_mid rfl 146 _ _ rfl _ _ _ rfl rfl (by simpa [partL_len] using hU0.free) (by simpa [partL_len] using info_part) (all_oneCell_toArray (partL_one _ _ _ _ _ _)) ?_))
        have hfin := (hU0.put 8 i (fun _ => false) le mo i).load
        refine bodyPost_ret (v := .tuple #[.agg (partL 8 i (fun _ => false) le mo i).toArray, .int .i64 n, .bool true]) (results_load3 Try.results148 (by simp) hfin (by simp) (by simp)) rfl ?_
        rw [HR.out, HF.out]
        exact ⟨_, _, _, _, _, _, rfl, hBU.trans (below_setCells _ _ 0 (Nat.le_refl _) _ _ _), fun _ => ⟨rfl, rfl, rfl, rfl, (if_pos c2).symm⟩⟩
      · go_wp2_with (first | (with_reducible show wpList _ _ _ ({ dst := _, op := Op.load 146 _, type := _, pos := _, after := _, guard := _ } :: _) _ _; refine wpList_load_mid rfl 146 _ rfl _ _ rfl _ _ hS1.at_ Try.underlying146 rfl (by rw [partL_len]; exact info_part) ?_) | (with_reducible show wpList _ _ _ ({ dst := _, op := Op.store 146 _ _, type := _, pos := _, after := _, guard := _ } :: _) _ _; refine wpList_store_mid rfl 146 _ _ rfl _ _ _ rfl rfl (by simpa [partL_len] using hS0.free) (by simpa [partL_len] using info_part) (all_oneCell_toArray (partL_one _ _ _ _ _ _)) ?_))
        have hfin := (hS0.put 8 i (fun _ => false) le mo (-1)).load
        refine bodyPost_ret (v := .tuple #[.agg (partL 8 i (fun _ => false) le mo (-1)).toArray, .int .i64 n, .bool true]) (results_load3 Try.results148 (by simp) hfin (by simp) (by simp)) rfl ?_
        rw [HR.out, HF.out]
        exact ⟨_, _, _, _, _, _, rfl, hBS.trans (below_setCells _ _ 0 (Nat.le_refl _) _ _ _), fun _ => ⟨rfl, rfl, rfl, rfl, (if_neg (by omega)).symm⟩⟩
end Go.Proofs.Ytoaaklhpmhjhkaa
