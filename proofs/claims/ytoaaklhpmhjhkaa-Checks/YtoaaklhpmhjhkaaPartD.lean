/-
  Contracts of the program's readPlace and readPart.
-/
import Derived.Test.YtoaaklhpmhjhkaaPartC
namespace Go.Proofs.Ytoaaklhpmhjhkaa
open Go.RowKit

set_option maxRecDepth 100000 in
set_option maxHeartbeats 4000000 in
theorem readPlace_any (s : ByteArray) (k0 : Nat) (w : World) (hs : s.size ≤ 40) (hk0 : k0 ≤ 40) :
    Calls Try.prog 147 #[.string s, .int .i64 k0] w (TPost w 1 k0 (Pg.readPlace (bat s) s.size k0).n (Pg.readPlace (bat s) s.size k0).ok (Pg.readPlace (bat s) s.size k0).f 0 (Pg.readPlace (bat s) s.size k0).fa) := by
  have hz := zero_part
  have hsp := set_part'
  obtain ⟨hP0, hP1⟩ := twoParts w
  have hst := hP1.store 1 k0 (fun _ => false) 0 0 (-1)
  have hQ1 := hP1.put 1 k0 (fun _ => false) 0 0 (-1)
  have hQ0 := hP0.far (w.heap.size + 1) 0 (partL 1 k0 (fun _ => false) 0 0 (-1)) (by omega)
  have hB : Below w.heap.size w (((w.alloc (Obj.cells (partL 0 0 (fun _ => false) 0 0 0).toArray 146)).alloc (Obj.cells (partL 0 0 (fun _ => false) 0 0 0).toArray 146)).setCells (w.heap.size + 1) 0 (partL 1 k0 (fun _ => false) 0 0 (-1))) := (((Below.refl _ _).alloc (Nat.le_refl _) _).alloc (by simp) _).trans (below_setCells _ _ 0 (by omega) _ _ _)
  clear hP0 hP1
  go_enter Try.func147, Try.ntmps147
  go_wp2_with fail
  clear hst hz hsp
  generalize (((w.alloc (Obj.cells (partL 0 0 (fun _ => false) 0 0 0).toArray 146)).alloc (Obj.cells (partL 0 0 (fun _ => false) 0 0 0).toArray 146)).setCells (w.heap.size + 1) 0 (partL 1 k0 (fun _ => false) 0 0 (-1))) = W at *
  refine (byteAt_any s (k0 : Int) _).mono ?_
  rintro e W ⟨rfl, rfl⟩
  by_cases c91 : bat s (k0 : Int) = 91
  · have HR : Hid (Pg.readPlace (bat s) s.size k0 = Pg.readSet (bat s) s.size k0) := by show _ = _; rw [Pg.readPlace, if_pos c91]
    have b91 : (bat s (k0 : Int) == 91) = true := by simpa using c91
    clear c91
    go_wp2_with fail
    refine (readSet_any s k0 _ hs hk0).mono ?_
    rintro e W2 ⟨kd', pl', f', le', mo', fa', rfl, hW2, hok⟩
    have Hok : Hid _ := hok
    clear hok
    have hS0 := hQ0.below hQ0.lt hW2
    have hBS := hB.trans (hW2.mono hB.size)
    go_wp2_with (first | (with_reducible show wpList _ _ _ ({ dst := _, op := Op.store 146 _ _, type := _, pos := _, after := _, guard := _ } :: _) _ _; refine wpList_store_mid rfl 146 _ _ rfl _ _ _ rfl rfl (by simpa [partL_len] using hS0.free) (by simpa [partL_len] using info_part) (all_oneCell_toArray (partL_one _ _ _ _ _ _)) ?_))
    have hfin := (hS0.put kd' pl' f' le' mo' fa').load
    refine bodyPost_ret (v := .tuple #[.agg (partL kd' pl' f' le' mo' fa').toArray, .int .i64 (Pg.readSet (bat s) s.size k0).n, .bool (Pg.readSet (bat s) s.size k0).ok]) (results_load3 Try.results147 (by simp) hfin (by simp) (by simp)) rfl ?_
    rw [HR.out]
    exact ⟨_, _, _, _, _, _, rfl, hBS.trans (below_setCells _ _ 0 (Nat.le_refl _) _ _ _), Hok.out⟩
  have b91 : (bat s (k0 : Int) == 91) = false := by simpa using c91
  by_cases c46 : bat s (k0 : Int) = 46
  · have HR : Hid (Pg.readPlace (bat s) s.size k0 = ⟨(k0 : Int) + 1, true, fun k => !(Pg.withF (fun _ => false) 10 10 k), -1⟩) := by show _ = _; rw [Pg.readPlace, if_neg c91, if_pos c46]
    have b46 : (bat s (k0 : Int) == 46) = true := by simpa using c46
    have hz := zero_set
    clear c91 c46
    go_wp2_with (first | (with_reducible show wpList _ _ _ ({ dst := _, op := Op.load 144 _, type := _, pos := _, after := _, guard := _ } :: _) _ _; refine wpList_load_mid rfl 144 _ rfl _ _ rfl _ _ hQ1.set Try.underlying144 rfl (by rw [setL_len]; exact info_set) ?_))
    refine (with_any _ _ _ _).mono ?_
    rintro e W2 ⟨rfl, hW2⟩
    have hS1 := hQ1.below hQ1.lt hW2
    have hS0 := hQ0.below hQ0.lt hW2
    have hBS := hB.trans (hW2.mono hB.size)
    have hN := BRow.boxed W2 (fun _ => false) 144
    have hNt := hN.there
    have hNr : ((W2.alloc (Obj.cells (setL fun _ => false).toArray 144)).setCells W2.heap.size 0 (setL (Pg.withF (fun _ => false) 10 10))).rangeAt W2.heap.size 0 (setL (Pg.withF (fun _ => false) 10 10)) := World.rangeAt_setCells_same _ _ _ _ (by rw [setL_len]; exact hNt)
    have hV1 := (hS1.alloc (Obj.cells (setL fun _ => false).toArray 144)).far W2.heap.size 0 (setL (Pg.withF (fun _ => false) 10 10)) (by have := hS1.lt; omega)
    have hV0 := (hS0.alloc (Obj.cells (setL fun _ => false).toArray 144)).far W2.heap.size 0 (setL (Pg.withF (fun _ => false) 10 10)) (by have := hS0.lt; omega)
    have hBV : Below w.heap.size w ((W2.alloc (Obj.cells (setL fun _ => false).toArray 144)).setCells W2.heap.size 0 (setL (Pg.withF (fun _ => false) 10 10))) := (hBS.alloc hBS.size _).trans (below_setCells w.heap.size W2.heap.size 0 hBS.size (setL (Pg.withF (fun _ => false) 10 10)) _ 0)
    go_wp2_with (first | (with_reducible show wpList _ _ _ ({ dst := _, op := Op.store 144 _ _, type := _, pos := _, after := _, guard := _ } :: _) _ _; refine wpList_store_mid rfl 144 _ _ rfl _ _ _ rfl rfl (by simpa [setL_len] using hNt) (by simpa [setL_len] using info_set) (all_oneCell_toArray (setL_one _)) ?_) | (with_reducible show wpList _ _ _ ({ dst := _, op := Op.load 144 _, type := _, pos := _, after := _, guard := _ } :: _) _ _; refine wpList_load_mid rfl 144 _ rfl _ _ rfl _ _ hNr Try.underlying144 rfl (by rw [setL_len]; exact info_set) ?_))
    refine (others_any _ _).mono ?_
    rintro e W3 ⟨rfl, hW3⟩
    have hX1 := hV1.below hV1.lt hW3
    have hX0 := hV0.below hV0.lt hW3
    have hBX := hBV.trans (hW3.mono hBV.size)
    have hY1 := hX1.put2 (fun k => !(Pg.withF (fun _ => false) 10 10 k))
    have hY0 := hX0.far (w.heap.size + 1) 2 (setL (fun k => !(Pg.withF (fun _ => false) 10 10 k))) (by omega)
    have hBY := hBX.trans (below_setCells w.heap.size (w.heap.size + 1) 2 (by omega) (setL (fun k => !(Pg.withF (fun _ => false) 10 10 k))) W3 2)
    clear hz
    go_wp2_with (first | (with_reducible show wpList _ _ _ ({ dst := _, op := Op.store 144 _ _, type := _, pos := _, after := _, guard := _ } :: _) _ _; refine wpList_store_mid rfl 144 _ _ rfl _ _ _ rfl rfl (by simpa [setL_len] using hX1.setFree) (by simpa [setL_len] using info_set) (all_oneCell_toArray (setL_one _)) ?_) | (with_reducible show wpList _ _ _ ({ dst := _, op := Op.load 146 _, type := _, pos := _, after := _, guard := _ } :: _) _ _; refine wpList_load_mid rfl 146 _ rfl _ _ rfl _ _ hY1.at_ Try.underlying146 rfl (by rw [partL_len]; exact info_part) ?_) | (with_reducible show wpList _ _ _ ({ dst := _, op := Op.store 146 _ _, type := _, pos := _, after := _, guard := _ } :: _) _ _; refine wpList_store_mid rfl 146 _ _ rfl _ _ _ rfl rfl (by simpa [partL_len] using hY0.free) (by simpa [partL_len] using info_part) (all_oneCell_toArray (partL_one _ _ _ _ _ _)) ?_))
    have hfin := (hY0.put 1 k0 (fun k => !(Pg.withF (fun _ => false) 10 10 k)) 0 0 (-1)).load
    refine bodyPost_ret (v := .tuple #[.agg (partL 1 k0 (fun k => !(Pg.withF (fun _ => false) 10 10 k)) 0 0 (-1)).toArray, .int .i64 ((k0 : Int) + 1), .bool true]) (results_load3 Try.results147 (by simp) hfin (by simp) (by simp)) rfl ?_
    rw [HR.out]
    exact ⟨_, _, _, _, _, _, rfl, hBY.trans (below_setCells _ _ 0 (Nat.le_refl _) _ _ _), fun _ => ⟨rfl, rfl, rfl, rfl, rfl⟩⟩
  have b46 : (bat s (k0 : Int) == 46) = false := by simpa using c46
  by_cases c92 : bat s (k0 : Int) = 92
  · have HR : Hid (Pg.readPlace (bat s) s.size k0 = ⟨(Pg.readEscape (bat s) k0).n, (Pg.readEscape (bat s) k0).ok, Pg.withF (fun _ => false) (Pg.readEscape (bat s) k0).v (Pg.readEscape (bat s) k0).v, -1⟩) := by show _ = _; rw [Pg.readPlace, if_neg c91, if_neg c46, if_pos c92]
    have b92 : (bat s (k0 : Int) == 92) = true := by simpa using c92
    clear c91 c46 c92
    go_wp2_with fail
    refine (readEscape_any s (k0 : Int) _ (by omega) (by omega)).mono ?_
    rintro e W ⟨rfl, rfl⟩
    generalize Pg.readEscape (bat s) k0 = r at *
    obtain ⟨v, n, ok⟩ := r
    cases ok
    · go_wp2_with (first | (with_reducible show wpList _ _ _ ({ dst := _, op := Op.load 146 _, type := _, pos := _, after := _, guard := _ } :: _) _ _; refine wpList_load_mid rfl 146 _ rfl _ _ rfl _ _ hQ1.at_ Try.underlying146 rfl (by rw [partL_len]; exact info_part) ?_) | (with_reducible show wpList _ _ _ ({ dst := _, op := Op.store 146 _ _, type := _, pos := _, after := _, guard := _ } :: _) _ _; refine wpList_store_mid rfl 146 _ _ rfl _ _ _ rfl rfl (by simpa [partL_len] using hQ0.free) (by simpa [partL_len] using info_part) (all_oneCell_toArray (partL_one _ _ _ _ _ _)) ?_))
      have hfin := (hQ0.put 1 k0 (fun _ => false) 0 0 (-1)).load
      refine bodyPost_ret (v := .tuple #[.agg (partL 1 k0 (fun _ => false) 0 0 (-1)).toArray, .int .i64 n, .bool false]) (results_load3 Try.results147 (by simp) hfin (by simp) (by simp)) rfl ?_
      rw [HR.out]
      exact ⟨_, _, _, _, _, _, rfl, hB.trans (below_setCells _ _ 0 (Nat.le_refl _) _ _ _), fun h => by cases h⟩
    · go_wp2_with (first | (with_reducible show wpList _ _ _ ({ dst := _, op := Op.load 144 _, type := _, pos := _, after := _, guard := _ } :: _) _ _; refine wpList_load_mid rfl 144 _ rfl _ _ rfl _ _ hQ1.set Try.underlying144 rfl (by rw [setL_len]; exact info_set) ?_))
      refine (with_any _ _ _ _).mono ?_
      rintro e W2 ⟨rfl, hW2⟩
      have hS1 := hQ1.below hQ1.lt hW2
      have hS0 := hQ0.below hQ0.lt hW2
      have hBS := hB.trans (hW2.mono hB.size)
      have hY1 := hS1.put2 (Pg.withF (fun _ => false) v v)
      have hY0 := hS0.far (w.heap.size + 1) 2 (setL (Pg.withF (fun _ => false) v v)) (by omega)
      have hBY := hBS.trans (below_setCells w.heap.size (w.heap.size + 1) 2 (by omega) (setL (Pg.withF (fun _ => false) v v)) W2 2)
      go_wp2_with (first | (with_reducible show wpList _ _ _ ({ dst := _, op := Op.store 144 _ _, type := _, pos := _, after := _, guard := _ } :: _) _ _; refine wpList_store_mid rfl 144 _ _ rfl _ _ _ rfl rfl (by simpa [setL_len] using hS1.setFree) (by simpa [setL_len] using info_set) (all_oneCell_toArray (setL_one _)) ?_) | (with_reducible show wpList _ _ _ ({ dst := _, op := Op.load 146 _, type := _, pos := _, after := _, guard := _ } :: _) _ _; refine wpList_load_mid rfl 146 _ rfl _ _ rfl _ _ hY1.at_ Try.underlying146 rfl (by rw [partL_len]; exact info_part) ?_) | (with_reducible show wpList _ _ _ ({ dst := _, op := Op.store 146 _ _, type := _, pos := _, after := _, guard := _ } :: _) _ _; refine wpList_store_mid rfl 146 _ _ rfl _ _ _ rfl rfl (by simpa [partL_len] using hY0.free) (by simpa [partL_len] using info_part) (all_oneCell_toArray (partL_one _ _ _ _ _ _)) ?_))
      have hfin := (hY0.put 1 k0 (Pg.withF (fun _ => false) v v) 0 0 (-1)).load
      refine bodyPost_ret (v := .tuple #[.agg (partL 1 k0 (Pg.withF (fun _ => false) v v) 0 0 (-1)).toArray, .int .i64 n, .bool true]) (results_load3 Try.results147 (by simp) hfin (by simp) (by simp)) rfl ?_
      rw [HR.out]
      exact ⟨_, _, _, _, _, _, rfl, hBY.trans (below_setCells _ _ 0 (Nat.le_refl _) _ _ _), fun _ => ⟨rfl, rfl, rfl, rfl, rfl⟩⟩
  · have b92 : (bat s (k0 : Int) == 92) = false := by simpa using c92
    have HR : Hid (Pg.readPlace (bat s) s.size k0 = ⟨(k0 : Int) + 1, true, Pg.withF (fun _ => false) (bat s k0) (bat s k0), -1⟩) := by show _ = _; rw [Pg.readPlace, if_neg c91, if_neg c46, if_neg c92]
    clear c91 c46 c92
    go_wp2_with (first | (with_reducible show wpList _ _ _ ({ dst := _, op := Op.load 144 _, type := _, pos := _, after := _, guard := _ } :: _) _ _; refine wpList_load_mid rfl 144 _ rfl _ _ rfl _ _ hQ1.set Try.underlying144 rfl (by rw [setL_len]; exact info_set) ?_))
    refine (with_any _ _ _ _).mono ?_
    rintro e W2 ⟨rfl, hW2⟩
    have hS1 := hQ1.below hQ1.lt hW2
    have hS0 := hQ0.below hQ0.lt hW2
    have hBS := hB.trans (hW2.mono hB.size)
    have hY1 := hS1.put2 (Pg.withF (fun _ => false) (bat s k0) (bat s k0))
    have hY0 := hS0.far (w.heap.size + 1) 2 (setL (Pg.withF (fun _ => false) (bat s k0) (bat s k0))) (by omega)
    have hBY := hBS.trans (below_setCells w.heap.size (w.heap.size + 1) 2 (by omega) (setL (Pg.withF (fun _ => false) (bat s k0) (bat s k0))) W2 2)
    go_wp2_with (first | (with_reducible show wpList _ _ _ ({ dst := _, op := Op.store 144 _ _, type := _, pos := _, after := _, guard := _ } :: _) _ _; refine wpList_store_mid rfl 144 _ _ rfl _ _ _ rfl rfl (by simpa [setL_len] using hS1.setFree) (by simpa [setL_len] using info_set) (all_oneCell_toArray (setL_one _)) ?_) | (with_reducible show wpList _ _ _ ({ dst := _, op := Op.load 146 _, type := _, pos := _, after := _, guard := _ } :: _) _ _; refine wpList_load_mid rfl 146 _ rfl _ _ rfl _ _ hY1.at_ Try.underlying146 rfl (by rw [partL_len]; exact info_part) ?_) | (with_reducible show wpList _ _ _ ({ dst := _, op := Op.store 146 _ _, type := _, pos := _, after := _, guard := _ } :: _) _ _; refine wpList_store_mid rfl 146 _ _ rfl _ _ _ rfl rfl (by simpa [partL_len] using hY0.free) (by simpa [partL_len] using info_part) (all_oneCell_toArray (partL_one _ _ _ _ _ _)) ?_))
    have hfin := (hY0.put 1 k0 (Pg.withF (fun _ => false) (bat s k0) (bat s k0)) 0 0 (-1)).load
    refine bodyPost_ret (v := .tuple #[.agg (partL 1 k0 (Pg.withF (fun _ => false) (bat s k0) (bat s k0)) 0 0 (-1)).toArray, .int .i64 ((k0 : Int) + 1), .bool true]) (results_load3 Try.results147 (by simp) hfin (by simp) (by simp)) rfl ?_
    rw [HR.out]
    exact ⟨_, _, _, _, _, _, rfl, hBY.trans (below_setCells _ _ 0 (Nat.le_refl _) _ _ _), fun _ => ⟨rfl, rfl, rfl, rfl, rfl⟩⟩


set_option maxRecDepth 100000 in
set_option maxHeartbeats 4000000 in
theorem readPart_any (s : ByteArray) (k0 : Nat) (kd : Int) (w : World) (hs : s.size ≤ 40) (hk0 : k0 ≤ 40) :
    Calls Try.prog 136 #[.string s, .int .i64 k0, .int .i64 kd] w (TPost w kd k0 (Pg.readPart (bat s) s.size k0 kd).n (Pg.readPart (bat s) s.size k0 kd).ok (Pg.readPart (bat s) s.size k0 kd).f (Pg.readPart (bat s) s.size k0 kd).mo (Pg.readPart (bat s) s.size k0 kd).fa) := by
  have hz := zero_part
  have hsp := set_part'
  have hP0 := PRow.boxed w 0 0 (fun _ => false) 0 0 0 146
  have hB : Below w.heap.size w (w.alloc (Obj.cells (partL 0 0 (fun _ => false) 0 0 0).toArray 146)) := (Below.refl _ _).alloc (Nat.le_refl _) _
  by_cases c1 : kd = 1
  · subst c1
    have HR : Hid (Pg.readPart (bat s) s.size k0 1 = ⟨(Pg.readPlace (bat s) s.size k0).n, (Pg.readPlace (bat s) s.size k0).ok, (Pg.readPlace (bat s) s.size k0).f, 0, (Pg.readPlace (bat s) s.size k0).fa⟩) := rfl
    go_enter Try.func136, Try.ntmps136
    go_wp2_with fail
    refine (readPlace_any s k0 _ hs hk0).mono ?_
    rintro e W2 ⟨kd', pl', f', le', mo', fa', rfl, hW2, hok⟩
    have Hok : Hid _ := hok
    clear hok hz hsp
    have hS0 := hP0.below hP0.lt hW2
    have hBS := hB.trans (hW2.mono hB.size)
    go_wp2_with (first | (with_reducible show wpList _ _ _ ({ dst := _, op := Op.store 146 _ _, type := _, pos := _, after := _, guard := _ } :: _) _ _; refine wpList_store_mid rfl 146 _ _ rfl _ _ _ rfl rfl (by simpa [partL_len] using hS0.free) (by simpa [partL_len] using info_part) (all_oneCell_toArray (partL_one _ _ _ _ _ _)) ?_))
    have hfin := (hS0.put kd' pl' f' le' mo' fa').load
    refine bodyPost_ret (v := .tuple #[.agg (partL kd' pl' f' le' mo' fa').toArray, .int .i64 (Pg.readPlace (bat s) s.size k0).n, .bool (Pg.readPlace (bat s) s.size k0).ok]) (results_load3 Try.results136 (by simp) hfin (by simp) (by simp)) rfl ?_
    rw [HR.out]
    exact ⟨_, _, _, _, _, _, rfl, hBS.trans (below_setCells _ _ 0 (Nat.le_refl _) _ _ _), Hok.out⟩
  have b1 : (kd == 1) = false := by simpa using c1
  by_cases c8 : kd = 8
  · subst c8
    have HR : Hid (Pg.readPart (bat s) s.size k0 8 = ⟨(Pg.readCount (bat s) k0).n, (Pg.readCount (bat s) k0).ok, fun _ => false, (Pg.readCount (bat s) k0).v, Pg.countFalls (bat s) k0⟩) := rfl
    go_enter Try.func136, Try.ntmps136
    go_wp2_with fail
    refine (readCount_any s (k0 : Int) _ (by omega) (by omega)).mono ?_
    rintro e W2 ⟨kd', pl', f', le', mo', fa', rfl, hW2, hok⟩
    have Hok : Hid _ := hok
    clear hok hz hsp
    have hS0 := hP0.below hP0.lt hW2
    have hBS := hB.trans (hW2.mono hB.size)
    go_wp2_with (first | (with_reducible show wpList _ _ _ ({ dst := _, op := Op.store 146 _ _, type := _, pos := _, after := _, guard := _ } :: _) _ _; refine wpList_store_mid rfl 146 _ _ rfl _ _ _ rfl rfl (by simpa [partL_len] using hS0.free) (by simpa [partL_len] using info_part) (all_oneCell_toArray (partL_one _ _ _ _ _ _)) ?_))
    have hfin := (hS0.put kd' pl' f' le' mo' fa').load
    refine bodyPost_ret (v := .tuple #[.agg (partL kd' pl' f' le' mo' fa').toArray, .int .i64 (Pg.readCount (bat s) k0).n, .bool (Pg.readCount (bat s) k0).ok]) (results_load3 Try.results136 (by simp) hfin (by simp) (by simp)) rfl ?_
    rw [HR.out]
    exact ⟨_, _, _, _, _, _, rfl, hBS.trans (below_setCells _ _ 0 (Nat.le_refl _) _ _ _), Hok.out⟩
  · have b8 : (kd == 8) = false := by simpa using c8
    have HR : Hid (Pg.readPart (bat s) s.size k0 kd = ⟨(k0 : Int) + 1, true, fun _ => false, 0, -1⟩) := by show _ = _; rw [Pg.readPart, if_neg c1, if_neg c8]
    have hst := hP0.store kd k0 (fun _ => false) 0 0 (-1)
    clear c1 c8
    go_enter Try.func136, Try.ntmps136
    go_wp2_with fail
    have hfin := (hP0.put kd k0 (fun _ => false) 0 0 (-1)).load
    refine bodyPost_ret (v := .tuple #[.agg (partL kd k0 (fun _ => false) 0 0 (-1)).toArray, .int .i64 ((k0 : Int) + 1), .bool true]) (results_load3 Try.results136 (by simp) hfin (by simp) (by simp)) rfl ?_
    rw [HR.out]
    exact ⟨_, _, _, _, _, _, rfl, hB.trans (below_setCells _ _ 0 (Nat.le_refl _) _ _ _), fun _ => ⟨rfl, rfl, rfl, rfl, rfl⟩⟩
end Go.Proofs.Ytoaaklhpmhjhkaa
