/-
  Contract of the program's readSet.
-/
import Derived.Test.YtoaaklhpmhjhkaaPartB
namespace Go.Proofs.Ytoaaklhpmhjhkaa
open Go.RowKit

set_option maxRecDepth 100000 in
set_option maxHeartbeats 4000000 in
theorem readSet_any (s : ByteArray) (k0 : Nat) (w : World) (hs : s.size ≤ 40) (hk0 : k0 ≤ 40) :
    Calls Try.prog 151 #[.string s, .int .i64 k0] w (TPost w 1 k0 (Pg.readSet (bat s) s.size k0).n (Pg.readSet (bat s) s.size k0).ok (Pg.readSet (bat s) s.size k0).f 0 (Pg.readSet (bat s) s.size k0).fa) := by
  have hz := zero_part
  have hsp := set_part'
  obtain ⟨hP0, hP1⟩ := twoParts w
  have hst := hP1.store 1 k0 (fun _ => false) 0 0 (-1)
  have hQ1 := hP1.put 1 k0 (fun _ => false) 0 0 (-1)
  have hQ0 := hP0.far (w.heap.size + 1) 0 (partL 1 k0 (fun _ => false) 0 0 (-1)) (by omega)
  have hB : Below w.heap.size w (((w.alloc (Obj.cells (partL 0 0 (fun _ => false) 0 0 0).toArray 146)).alloc (Obj.cells (partL 0 0 (fun _ => false) 0 0 0).toArray 146)).setCells (w.heap.size + 1) 0 (partL 1 k0 (fun _ => false) 0 0 (-1))) := (((Below.refl _ _).alloc (Nat.le_refl _) _).alloc (by simp) _).trans (below_setCells _ _ 0 (by omega) _ _ _)
  clear hP0 hP1
  go_enter Try.func151, Try.ntmps151
  go_wp2_with fail
  clear hst hz hsp
  generalize (((w.alloc (Obj.cells (partL 0 0 (fun _ => false) 0 0 0).toArray 146)).alloc (Obj.cells (partL 0 0 (fun _ => false) 0 0 0).toArray 146)).setCells (w.heap.size + 1) 0 (partL 1 k0 (fun _ => false) 0 0 (-1))) = W at *
  refine (byteAt_any s ((k0 : Int) + 1) _).mono ?_
  rintro e W ⟨rfl, rfl⟩
  by_cases c94 : bat s ((k0 : Int) + 1) = 94
  · have b94 : (bat s ((k0 : Int) + 1) == 94) = true := by simpa using c94
    obtain ⟨R, hR⟩ : ∃ R, R = Pg.setLoop (bat s) s.size ((k0 : Int) + 2) (s.size + 1) ((k0 : Int) + 2) (-1) (fun _ => false) := ⟨_, rfl⟩
    have HR : Hid (Pg.readSet (bat s) s.size k0 = ⟨R.n, R.ok, fun k => !R.f k, R.fa⟩) := by show _ = _; rw [Pg.readSet, if_pos c94, hR]; rfl
    have HL : Hid (R = Pg.setLoop (bat s) s.size ((k0 : Int) + 2) (s.size + 1) ((k0 : Int) + 2) (-1) (fun _ => false)) := hR
    clear hR c94
    go_wp2_with fail
    go_loopw [10] (fun x w' => ∃ (u k : Nat) (fa : Int) (f : Nat → Bool), x = .int .i64 k ∧ k0 + 2 ≤ k ∧ s.size < u + k ∧ 1 ≤ u ∧ k ≤ 60 ∧ PRow w.heap.size 0 0 (fun _ => false) 0 0 0 w' ∧ PRow (w.heap.size + 1) 1 k0 f 0 0 fa w' ∧ Below w.heap.size w w' ∧ Hid (R = Pg.setLoop (bat s) s.size ((k0 : Int) + 2) u k fa f)) (fun x _ => 70 - (intOf x).toNat)
    case atStart => exact ⟨s.size + 1, k0 + 2, -1, fun _ => false, by go_num, by omega, by omega, by omega, by omega, hQ0, hQ1, hB, HL⟩
    case round =>
      clear hQ0 hQ1 hB HL
      obtain ⟨u, k, fa, f, rfl, hk2, huk, hu1, hk60, hQ0, hQ1, hB, HL⟩ := hrel
      by_cases hlt : k < s.size
      · rcases u with _ | u
        · omega
        have hbk : bat s (k : Int) = (s[k].toNat : Int) := by
          have := bat_pos (s := s) (i := (k : Int)) (by simpa using hlt) (by omega)
          simpa using this
        have hlti : (k : Int) < (s.size : Int) := by omega
        by_cases c93 : bat s (k : Int) = 93 ∧ ((k0 : Int) + 2) < (k : Int)
        · have hb93 : ((s[k].toNat : Int) == 93) = true := by rw [← hbk]; simpa using c93.1
          have hgt : ((k0 : Int) + 2) < (k : Int) := c93.2
          have HL2 : Hid (R = ⟨(k : Int) + 1, true, f, fa⟩) := by show _ = _; rw [HL.out, Pg.setLoop, if_pos hlti, if_pos c93]
          clear HL hbk c93
          go_wp2_with (first | (with_reducible show wpList _ _ _ ({ dst := _, op := Op.load 144 _, type := _, pos := _, after := _, guard := _ } :: _) _ _; refine wpList_load_mid rfl 144 _ rfl _ _ rfl _ _ hQ1.set Try.underlying144 rfl (by rw [setL_len]; exact info_set) ?_))
          refine (others_any f _).mono ?_
          rintro e W2 ⟨rfl, hW2⟩
          have hS1 := hQ1.below hQ1.lt hW2
          have hS0 := hQ0.below hQ0.lt hW2
          have hBS := hB.trans (hW2.mono hB.size)
          have hU1 := hS1.put2 (fun k => !f k)
          have hU0 := hS0.far (w.heap.size + 1) 2 (setL fun k => !f k) (by omega)
          have hBU := hBS.trans (below_setCells w.heap.size (w.heap.size + 1) 2 (by omega) (setL fun k => !f k) W2 2)
          go_wp2_with (first | (with_reducible show wpList _ _ _ ({ dst := _, op := Op.store 144 _ _, type := _, pos := _, after := _, guard := _ } :: _) _ _; refine wpList_store_mid rfl 144 _ _ rfl _ _ _ rfl rfl (by simpa [setL_len] using hS1.setFree) (by simpa [setL_len] using info_set) (all_oneCell_toArray (setL_one _)) ?_) | (with_reducible show wpList _ _ _ ({ dst := _, op := Op.load 146 _, type := _, pos := _, after := _, guard := _ } :: _) _ _; refine wpList_load_mid rfl 146 _ rfl _ _ rfl _ _ hU1.at_ Try.underlying146 rfl (by rw [partL_len]; exact info_part) ?_) | (with_reducible show wpList _ _ _ ({ dst := _, op := Op.store 146 _ _, type := _, pos := _, after := _, guard := _ } :: _) _ _; refine wpList_store_mid rfl 146 _ _ rfl _ _ _ rfl rfl (by simpa [partL_len] using hU0.free) (by simpa [partL_len] using info_part) (all_oneCell_toArray (partL_one _ _ _ _ _ _)) ?_))
          have hfin := (hU0.put 1 k0 (fun k => !f k) 0 0 fa).load
          refine bodyPost_ret (v := .tuple #[.agg (partL 1 k0 (fun k => !f k) 0 0 fa).toArray, .int .i64 ((k : Int) + 1), .bool true]) (results_load3 Try.results151 (by simp) hfin (by simp) (by simp)) rfl ?_
          rw [HR.out, HL2.out]
          exact ⟨_, _, _, _, _, _, rfl, hBU.trans (below_setCells _ _ 0 (Nat.le_refl _) _ _ _), fun _ => ⟨rfl, rfl, rfl, rfl, rfl⟩⟩
        have HL1 : Hid (R = if (Pg.readItem (bat s) k).ok then Pg.setLoop (bat s) s.size ((k0 : Int) + 2) u (Pg.readItem (bat s) k).n (if (Pg.readItem (bat s) k).hi < (Pg.readItem (bat s) k).lo ∧ fa = -1 then (k : Int) else fa) (Pg.withF f (Pg.readItem (bat s) k).lo (Pg.readItem (bat s) k).hi) else ⟨(Pg.readItem (bat s) k).n, false, f, fa⟩) := by show _ = _; rw [HL.out, Pg.setLoop, if_pos hlti, if_neg c93]
        have hitem := Pg.readItem_bd (bat s) k (bat_bd s)
        obtain ⟨hi1, hi2, hi3⟩ := hitem
        have Hi3 : Hid ((Pg.readItem (bat s) k).ok = true → (k : Int) < (Pg.readItem (bat s) k).n ∧ 0 ≤ (Pg.readItem (bat s) k).lo ∧ (Pg.readItem (bat s) k).lo < 256 ∧ 0 ≤ (Pg.readItem (bat s) k).hi ∧ (Pg.readItem (bat s) k).hi < 256) := hi3
        clear HL hi3
        have hcl : ((s[k].toNat : Int) == 93) = false ∨ (((s[k].toNat : Int) == 93) = true ∧ ¬ ((k0 : Int) + 2) < (k : Int)) := by
          by_cases h93 : bat s (k : Int) = 93
          · right; exact ⟨by rw [← hbk]; simpa using h93, fun h => c93 ⟨h93, h⟩⟩
          · left; rw [← hbk]; simpa using h93
        clear hbk c93
        rcases hcl with hcl | ⟨hcl, hcl2⟩
        all_goals
          go_wp2_with fail
          refine (readItem_any s (k : Int) _ (by omega) (by omega)).mono ?_
          rintro e W ⟨rfl, rfl⟩
          generalize Pg.readItem (bat s) k = it at *
          obtain ⟨lo, hi, n, ok⟩ := it
          cases ok
          · go_wp2_with (first | (with_reducible show wpList _ _ _ ({ dst := _, op := Op.load 146 _, type := _, pos := _, after := _, guard := _ } :: _) _ _; refine wpList_load_mid rfl 146 _ rfl _ _ rfl _ _ hQ1.at_ Try.underlying146 rfl (by rw [partL_len]; exact info_part) ?_) | (with_reducible show wpList _ _ _ ({ dst := _, op := Op.store 146 _ _, type := _, pos := _, after := _, guard := _ } :: _) _ _; refine wpList_store_mid rfl 146 _ _ rfl _ _ _ rfl rfl (by simpa [partL_len] using hQ0.free) (by simpa [partL_len] using info_part) (all_oneCell_toArray (partL_one _ _ _ _ _ _)) ?_))
            have hfin := (hQ0.put 1 k0 f 0 0 fa).load
            refine bodyPost_ret (v := .tuple #[.agg (partL 1 k0 f 0 0 fa).toArray, .int .i64 n, .bool false]) (results_load3 Try.results151 (by simp) hfin (by simp) (by simp)) rfl ?_
            rw [HR.out, HL1.out]
            exact ⟨_, _, _, _, _, _, rfl, hB.trans (below_setCells _ _ 0 (Nat.le_refl _) _ _ _), fun h => by cases h⟩
          · have g1 : (k : Int) < n := (Hi3.out rfl).1
            have hi2' : n ≤ (k : Int) + 9 := hi2
            clear Hi3
            obtain ⟨nn, rfl⟩ := Int.eq_ofNat_of_zero_le (show 0 ≤ n by omega)
            have hc5 := hQ1.c5
            have hf5 := hQ1.fr 260 (by omega)
            by_cases hfall : hi < lo ∧ fa = -1
            · have HL2 : Hid (R = Pg.setLoop (bat s) s.size ((k0 : Int) + 2) u nn k (Pg.withF f lo hi)) := by show _ = _; rw [HL1.out]; simp only [if_pos hfall, if_true]
              obtain ⟨hf1, hf2⟩ := hfall
              subst hf2
              clear HL1
              have hV1 := hQ1.put5 (k : Int)
              have hV0 := hQ0.far1 (w.heap.size + 1) 260 (.int .i64 (k : Int)) (by omega)
              have hBV := hB.trans ((Below.refl w.heap.size W).setCell (p := ⟨w.heap.size + 1, 260, none⟩) (by simp) (.int .i64 (k : Int)))
              go_wp2_with (first | (with_reducible show wpList _ _ _ ({ dst := _, op := Op.load 144 _, type := _, pos := _, after := _, guard := _ } :: _) _ _; refine wpList_load_mid rfl 144 _ rfl _ _ rfl _ _ hV1.set Try.underlying144 rfl (by rw [setL_len]; exact info_set) ?_))
              refine (with_any f lo hi _).mono ?_
              rintro e W2 ⟨rfl, hW2⟩
              have hS1 := hV1.below hV1.lt hW2
              have hS0 := hV0.below hV0.lt hW2
              have hBS := hBV.trans (hW2.mono hBV.size)
              have hU1 := hS1.put2 (Pg.withF f lo hi)
              have hU0 := hS0.far (w.heap.size + 1) 2 (setL (Pg.withF f lo hi)) (by omega)
              have hBU := hBS.trans (below_setCells w.heap.size (w.heap.size + 1) 2 (by omega) (setL (Pg.withF f lo hi)) W2 2)
              go_wp2_with (first | (with_reducible show wpList _ _ _ ({ dst := _, op := Op.store 144 _ _, type := _, pos := _, after := _, guard := _ } :: _) _ _; refine wpList_store_mid rfl 144 _ _ rfl _ _ _ rfl rfl (by simpa [setL_len] using hS1.setFree) (by simpa [setL_len] using info_set) (all_oneCell_toArray (setL_one _)) ?_))
              go_roundw
              case rel => exact ⟨u, nn, k, _, rfl, by omega, by omega, by omega, by omega, hU0, hU1, hBU, HL2⟩
              case measure => simp [intOf]; omega
            · have HL2 : Hid (R = Pg.setLoop (bat s) s.size ((k0 : Int) + 2) u nn fa (Pg.withF f lo hi)) := by show _ = _; rw [HL1.out]; simp only [if_neg hfall, if_true]
              clear HL1
              have hS : ∀ W2, Below W.heap.size W W2 → (PRow w.heap.size 0 0 (fun _ => false) 0 0 0 (W2.setCells (w.heap.size + 1) 2 (setL (Pg.withF f lo hi))) ∧ PRow (w.heap.size + 1) 1 k0 (Pg.withF f lo hi) 0 0 fa (W2.setCells (w.heap.size + 1) 2 (setL (Pg.withF f lo hi))) ∧ Below w.heap.size w (W2.setCells (w.heap.size + 1) 2 (setL (Pg.withF f lo hi)))) := fun W2 hW2 =>
                ⟨(hQ0.below hQ0.lt hW2).far (w.heap.size + 1) 2 _ (by omega), (hQ1.below hQ1.lt hW2).put2 _, (hB.trans (hW2.mono hB.size)).trans (below_setCells w.heap.size (w.heap.size + 1) 2 (by omega) _ W2 2)⟩
              have HS : Hid _ := hS
              clear hS
              by_cases hhl : hi < lo
              · have hfa : (fa == -1) = false := by rw [beq_eq_false_iff_ne]; intro h; exact hfall ⟨hhl, h⟩
                clear hfall
                go_wp2_with (first | (with_reducible show wpList _ _ _ ({ dst := _, op := Op.load 144 _, type := _, pos := _, after := _, guard := _ } :: _) _ _; refine wpList_load_mid rfl 144 _ rfl _ _ rfl _ _ hQ1.set Try.underlying144 rfl (by rw [setL_len]; exact info_set) ?_))
                refine (with_any f lo hi _).mono ?_
                rintro e W2 ⟨rfl, hW2⟩
                obtain ⟨hU0, hU1, hBU⟩ := HS.out W2 hW2
                have hS1 := hQ1.below hQ1.lt hW2
                go_wp2_with (first | (with_reducible show wpList _ _ _ ({ dst := _, op := Op.store 144 _ _, type := _, pos := _, after := _, guard := _ } :: _) _ _; refine wpList_store_mid rfl 144 _ _ rfl _ _ _ rfl rfl (by simpa [setL_len] using hS1.setFree) (by simpa [setL_len] using info_set) (all_oneCell_toArray (setL_one _)) ?_))
                go_roundw
                case rel => exact ⟨u, nn, fa, _, rfl, by omega, by omega, by omega, by omega, hU0, hU1, hBU, HL2⟩
                case measure => simp [intOf]; omega
              · clear hfall
                go_wp2_with (first | (with_reducible show wpList _ _ _ ({ dst := _, op := Op.load 144 _, type := _, pos := _, after := _, guard := _ } :: _) _ _; refine wpList_load_mid rfl 144 _ rfl _ _ rfl _ _ hQ1.set Try.underlying144 rfl (by rw [setL_len]; exact info_set) ?_))
                refine (with_any f lo hi _).mono ?_
                rintro e W2 ⟨rfl, hW2⟩
                obtain ⟨hU0, hU1, hBU⟩ := HS.out W2 hW2
                have hS1 := hQ1.below hQ1.lt hW2
                go_wp2_with (first | (with_reducible show wpList _ _ _ ({ dst := _, op := Op.store 144 _ _, type := _, pos := _, after := _, guard := _ } :: _) _ _; refine wpList_store_mid rfl 144 _ _ rfl _ _ _ rfl rfl (by simpa [setL_len] using hS1.setFree) (by simpa [setL_len] using info_set) (all_oneCell_toArray (setL_one _)) ?_))
                go_roundw
                case rel => exact ⟨u, nn, fa, _, rfl, by omega, by omega, by omega, by omega, hU0, hU1, hBU, HL2⟩
                case measure => simp [intOf]; omega
      · have hge : ¬ (k : Int) < (s.size : Int) := by omega
        have HL2 : Hid (∃ e1 f1 fa1, R = ⟨e1, false, f1, fa1⟩ ∧ e1 = (s.size : Int)) := by
          show ∃ e1 f1 fa1, R = ⟨e1, false, f1, fa1⟩ ∧ e1 = (s.size : Int)
          rw [HL.out]
          rcases u with _ | u
          · omega
          · exact ⟨_, _, _, by rw [Pg.setLoop, if_neg hge], rfl⟩
        clear HL
        go_wp2_with (first | (with_reducible show wpList _ _ _ ({ dst := _, op := Op.load 146 _, type := _, pos := _, after := _, guard := _ } :: _) _ _; refine wpList_load_mid rfl 146 _ rfl _ _ rfl _ _ hQ1.at_ Try.underlying146 rfl (by rw [partL_len]; exact info_part) ?_) | (with_reducible show wpList _ _ _ ({ dst := _, op := Op.store 146 _ _, type := _, pos := _, after := _, guard := _ } :: _) _ _; refine wpList_store_mid rfl 146 _ _ rfl _ _ _ rfl rfl (by simpa [partL_len] using hQ0.free) (by simpa [partL_len] using info_part) (all_oneCell_toArray (partL_one _ _ _ _ _ _)) ?_))
        have hfin := (hQ0.put 1 k0 f 0 0 fa).load
        refine bodyPost_ret (v := .tuple #[.agg (partL 1 k0 f 0 0 fa).toArray, .int .i64 (s.size : Int), .bool false]) (results_load3 Try.results151 (by simp) hfin (by simp) (by simp)) rfl ?_
        obtain ⟨e1, f1, fa1, h1, h2⟩ := HL2.out
        subst h2
        rw [HR.out, h1]
        exact ⟨_, _, _, _, _, _, rfl, hB.trans (below_setCells _ _ 0 (Nat.le_refl _) _ _ _), fun h => by cases h⟩
  · have b94 : (bat s ((k0 : Int) + 1) == 94) = false := by simpa using c94
    obtain ⟨R, hR⟩ : ∃ R, R = Pg.setLoop (bat s) s.size ((k0 : Int) + 1) (s.size + 1) ((k0 : Int) + 1) (-1) (fun _ => false) := ⟨_, rfl⟩
    have HR : Hid (Pg.readSet (bat s) s.size k0 = R) := by show _ = _; rw [Pg.readSet, if_neg c94, hR]; rfl
    have HL : Hid (R = Pg.setLoop (bat s) s.size ((k0 : Int) + 1) (s.size + 1) ((k0 : Int) + 1) (-1) (fun _ => false)) := hR
    clear hR c94
    go_wp2_with fail
    go_loopw [10] (fun x w' => ∃ (u k : Nat) (fa : Int) (f : Nat → Bool), x = .int .i64 k ∧ k0 + 1 ≤ k ∧ s.size < u + k ∧ 1 ≤ u ∧ k ≤ 60 ∧ PRow w.heap.size 0 0 (fun _ => false) 0 0 0 w' ∧ PRow (w.heap.size + 1) 1 k0 f 0 0 fa w' ∧ Below w.heap.size w w' ∧ Hid (R = Pg.setLoop (bat s) s.size ((k0 : Int) + 1) u k fa f)) (fun x _ => 70 - (intOf x).toNat)
    case atStart => exact ⟨s.size + 1, k0 + 1, -1, fun _ => false, by go_num, by omega, by omega, by omega, by omega, hQ0, hQ1, hB, HL⟩
    case round =>
      clear hQ0 hQ1 hB HL
      obtain ⟨u, k, fa, f, rfl, hk2, huk, hu1, hk60, hQ0, hQ1, hB, HL⟩ := hrel
      by_cases hlt : k < s.size
      · rcases u with _ | u
        · omega
        have hbk : bat s (k : Int) = (s[k].toNat : Int) := by
          have := bat_pos (s := s) (i := (k : Int)) (by simpa using hlt) (by omega)
          simpa using this
        have hlti : (k : Int) < (s.size : Int) := by omega
        by_cases c93 : bat s (k : Int) = 93 ∧ ((k0 : Int) + 1) < (k : Int)
        · have hb93 : ((s[k].toNat : Int) == 93) = true := by rw [← hbk]; simpa using c93.1
          have hgt : ((k0 : Int) + 1) < (k : Int) := c93.2
          have HL2 : Hid (R = ⟨(k : Int) + 1, true, f, fa⟩) := by show _ = _; rw [HL.out, Pg.setLoop, if_pos hlti, if_pos c93]
          clear HL hbk c93
          go_wp2_with (first | (with_reducible show wpList _ _ _ ({ dst := _, op := Op.load 146 _, type := _, pos := _, after := _, guard := _ } :: _) _ _; refine wpList_load_mid rfl 146 _ rfl _ _ rfl _ _ hQ1.at_ Try.underlying146 rfl (by rw [partL_len]; exact info_part) ?_) | (with_reducible show wpList _ _ _ ({ dst := _, op := Op.store 146 _ _, type := _, pos := _, after := _, guard := _ } :: _) _ _; refine wpList_store_mid rfl 146 _ _ rfl _ _ _ rfl rfl (by simpa [partL_len] using hQ0.free) (by simpa [partL_len] using info_part) (all_oneCell_toArray (partL_one _ _ _ _ _ _)) ?_))
          have hfin := (hQ0.put 1 k0 f 0 0 fa).load
          refine bodyPost_ret (v := .tuple #[.agg (partL 1 k0 f 0 0 fa).toArray, .int .i64 ((k : Int) + 1), .bool true]) (results_load3 Try.results151 (by simp) hfin (by simp) (by simp)) rfl ?_
          rw [HR.out, HL2.out]
          exact ⟨_, _, _, _, _, _, rfl, hB.trans (below_setCells _ _ 0 (Nat.le_refl _) _ _ _), fun _ => ⟨rfl, rfl, rfl, rfl, rfl⟩⟩
        have HL1 : Hid (R = if (Pg.readItem (bat s) k).ok then Pg.setLoop (bat s) s.size ((k0 : Int) + 1) u (Pg.readItem (bat s) k).n (if (Pg.readItem (bat s) k).hi < (Pg.readItem (bat s) k).lo ∧ fa = -1 then (k : Int) else fa) (Pg.withF f (Pg.readItem (bat s) k).lo (Pg.readItem (bat s) k).hi) else ⟨(Pg.readItem (bat s) k).n, false, f, fa⟩) := by show _ = _; rw [HL.out, Pg.setLoop, if_pos hlti, if_neg c93]
        have hitem := Pg.readItem_bd (bat s) k (bat_bd s)
        obtain ⟨hi1, hi2, hi3⟩ := hitem
        have Hi3 : Hid ((Pg.readItem (bat s) k).ok = true → (k : Int) < (Pg.readItem (bat s) k).n ∧ 0 ≤ (Pg.readItem (bat s) k).lo ∧ (Pg.readItem (bat s) k).lo < 256 ∧ 0 ≤ (Pg.readItem (bat s) k).hi ∧ (Pg.readItem (bat s) k).hi < 256) := hi3
        clear HL hi3
        have hcl : ((s[k].toNat : Int) == 93) = false ∨ (((s[k].toNat : Int) == 93) = true ∧ ¬ ((k0 : Int) + 1) < (k : Int)) := by
          by_cases h93 : bat s (k : Int) = 93
          · right; exact ⟨by rw [← hbk]; simpa using h93, fun h => c93 ⟨h93, h⟩⟩
          · left; rw [← hbk]; simpa using h93
        clear hbk c93
        rcases hcl with hcl | ⟨hcl, hcl2⟩
        all_goals
          go_wp2_with fail
          refine (readItem_any s (k : Int) _ (by omega) (by omega)).mono ?_
          rintro e W ⟨rfl, rfl⟩
          generalize Pg.readItem (bat s) k = it at *
          obtain ⟨lo, hi, n, ok⟩ := it
          cases ok
          · go_wp2_with (first | (with_reducible show wpList _ _ _ ({ dst := _, op := Op.load 146 _, type := _, pos := _, after := _, guard := _ } :: _) _ _; refine wpList_load_mid rfl 146 _ rfl _ _ rfl _ _ hQ1.at_ Try.underlying146 rfl (by rw [partL_len]; exact info_part) ?_) | (with_reducible show wpList _ _ _ ({ dst := _, op := Op.store 146 _ _, type := _, pos := _, after := _, guard := _ } :: _) _ _; refine wpList_store_mid rfl 146 _ _ rfl _ _ _ rfl rfl (by simpa [partL_len] using hQ0.free) (by simpa [partL_len] using info_part) (all_oneCell_toArray (partL_one _ _ _ _ _ _)) ?_))
            have hfin := (hQ0.put 1 k0 f 0 0 fa).load
            refine bodyPost_ret (v := .tuple #[.agg (partL 1 k0 f 0 0 fa).toArray, .int .i64 n, .bool false]) (results_load3 Try.results151 (by simp) hfin (by simp) (by simp)) rfl ?_
            rw [HR.out, HL1.out]
            exact ⟨_, _, _, _, _, _, rfl, hB.trans (below_setCells _ _ 0 (Nat.le_refl _) _ _ _), fun h => by cases h⟩
          · have g1 : (k : Int) < n := (Hi3.out rfl).1
            have hi2' : n ≤ (k : Int) + 9 := hi2
            clear Hi3
            obtain ⟨nn, rfl⟩ := Int.eq_ofNat_of_zero_le (show 0 ≤ n by omega)
            have hc5 := hQ1.c5
            have hf5 := hQ1.fr 260 (by omega)
            by_cases hfall : hi < lo ∧ fa = -1
            · have HL2 : Hid (R = Pg.setLoop (bat s) s.size ((k0 : Int) + 1) u nn k (Pg.withF f lo hi)) := by show _ = _; rw [HL1.out]; simp only [if_pos hfall, if_true]
              obtain ⟨hf1, hf2⟩ := hfall
              subst hf2
              clear HL1
              have hV1 := hQ1.put5 (k : Int)
              have hV0 := hQ0.far1 (w.heap.size + 1) 260 (.int .i64 (k : Int)) (by omega)
              have hBV := hB.trans ((Below.refl w.heap.size W).setCell (p := ⟨w.heap.size + 1, 260, none⟩) (by simp) (.int .i64 (k : Int)))
              go_wp2_with (first | (with_reducible show wpList _ _ _ ({ dst := _, op := Op.load 144 _, type := _, pos := _, after := _, guard := _ } :: _) _ _; refine wpList_load_mid rfl 144 _ rfl _ _ rfl _ _ hV1.set Try.underlying144 rfl (by rw [setL_len]; exact info_set) ?_))
              refine (with_any f lo hi _).mono ?_
              rintro e W2 ⟨rfl, hW2⟩
              have hS1 := hV1.below hV1.lt hW2
              have hS0 := hV0.below hV0.lt hW2
              have hBS := hBV.trans (hW2.mono hBV.size)
              have hU1 := hS1.put2 (Pg.withF f lo hi)
              have hU0 := hS0.far (w.heap.size + 1) 2 (setL (Pg.withF f lo hi)) (by omega)
              have hBU := hBS.trans (below_setCells w.heap.size (w.heap.size + 1) 2 (by omega) (setL (Pg.withF f lo hi)) W2 2)
              go_wp2_with (first | (with_reducible show wpList _ _ _ ({ dst := _, op := Op.store 144 _ _, type := _, pos := _, after := _, guard := _ } :: _) _ _; refine wpList_store_mid rfl 144 _ _ rfl _ _ _ rfl rfl (by simpa [setL_len] using hS1.setFree) (by simpa [setL_len] using info_set) (all_oneCell_toArray (setL_one _)) ?_))
              go_roundw
              case rel => exact ⟨u, nn, k, _, rfl, by omega, by omega, by omega, by omega, hU0, hU1, hBU, HL2⟩
              case measure => simp [intOf]; omega
            · have HL2 : Hid (R = Pg.setLoop (bat s) s.size ((k0 : Int) + 1) u nn fa (Pg.withF f lo hi)) := by show _ = _; rw [HL1.out]; simp only [if_neg hfall, if_true]
              clear HL1
              have hS : ∀ W2, Below W.heap.size W W2 → (PRow w.heap.size 0 0 (fun _ => false) 0 0 0 (W2.setCells (w.heap.size + 1) 2 (setL (Pg.withF f lo hi))) ∧ PRow (w.heap.size + 1) 1 k0 (Pg.withF f lo hi) 0 0 fa (W2.setCells (w.heap.size + 1) 2 (setL (Pg.withF f lo hi))) ∧ Below w.heap.size w (W2.setCells (w.heap.size + 1) 2 (setL (Pg.withF f lo hi)))) := fun W2 hW2 =>
                ⟨(hQ0.below hQ0.lt hW2).far (w.heap.size + 1) 2 _ (by omega), (hQ1.below hQ1.lt hW2).put2 _, (hB.trans (hW2.mono hB.size)).trans (below_setCells w.heap.size (w.heap.size + 1) 2 (by omega) _ W2 2)⟩
              have HS : Hid _ := hS
              clear hS
              by_cases hhl : hi < lo
              · have hfa : (fa == -1) = false := by rw [beq_eq_false_iff_ne]; intro h; exact hfall ⟨hhl, h⟩
                clear hfall
                go_wp2_with (first | (with_reducible show wpList _ _ _ ({ dst := _, op := Op.load 144 _, type := _, pos := _, after := _, guard := _ } :: _) _ _; refine wpList_load_mid rfl 144 _ rfl _ _ rfl _ _ hQ1.set Try.underlying144 rfl (by rw [setL_len]; exact info_set) ?_))
                refine (with_any f lo hi _).mono ?_
                rintro e W2 ⟨rfl, hW2⟩
                obtain ⟨hU0, hU1, hBU⟩ := HS.out W2 hW2
                have hS1 := hQ1.below hQ1.lt hW2
                go_wp2_with (first | (with_reducible show wpList _ _ _ ({ dst := _, op := Op.store 144 _ _, type := _, pos := _, after := _, guard := _ } :: _) _ _; refine wpList_store_mid rfl 144 _ _ rfl _ _ _ rfl rfl (by simpa [setL_len] using hS1.setFree) (by simpa [setL_len] using info_set) (all_oneCell_toArray (setL_one _)) ?_))
                go_roundw
                case rel => exact ⟨u, nn, fa, _, rfl, by omega, by omega, by omega, by omega, hU0, hU1, hBU, HL2⟩
                case measure => simp [intOf]; omega
              · clear hfall
                go_wp2_with (first | (with_reducible show wpList _ _ _ ({ dst := _, op := Op.load 144 _, type := _, pos := _, after := _, guard := _ } :: _) _ _; refine wpList_load_mid rfl 144 _ rfl _ _ rfl _ _ hQ1.set Try.underlying144 rfl (by rw [setL_len]; exact info_set) ?_))
                refine (with_any f lo hi _).mono ?_
                rintro e W2 ⟨rfl, hW2⟩
                obtain ⟨hU0, hU1, hBU⟩ := HS.out W2 hW2
                have hS1 := hQ1.below hQ1.lt hW2
                go_wp2_with (first | (with_reducible show wpList _ _ _ ({ dst := _, op := Op.store 144 _ _, type := _, pos := _, after := _, guard := _ } :: _) _ _; refine wpList_store_mid rfl 144 _ _ rfl _ _ _ rfl rfl (by simpa [setL_len] using hS1.setFree) (by simpa [setL_len] using info_set) (all_oneCell_toArray (setL_one _)) ?_))
                go_roundw
                case rel => exact ⟨u, nn, fa, _, rfl, by omega, by omega, by omega, by omega, hU0, hU1, hBU, HL2⟩
                case measure => simp [intOf]; omega
      · have hge : ¬ (k : Int) < (s.size : Int) := by omega
        have HL2 : Hid (∃ e1 f1 fa1, R = ⟨e1, false, f1, fa1⟩ ∧ e1 = (s.size : Int)) := by
          show ∃ e1 f1 fa1, R = ⟨e1, false, f1, fa1⟩ ∧ e1 = (s.size : Int)
          rw [HL.out]
          rcases u with _ | u
          · omega
          · exact ⟨_, _, _, by rw [Pg.setLoop, if_neg hge], rfl⟩
        clear HL
        go_wp2_with (first | (with_reducible show wpList _ _ _ ({ dst := _, op := Op.load 146 _, type := _, pos := _, after := _, guard := _ } :: _) _ _; refine wpList_load_mid rfl 146 _ rfl _ _ rfl _ _ hQ1.at_ Try.underlying146 rfl (by rw [partL_len]; exact info_part) ?_) | (with_reducible show wpList _ _ _ ({ dst := _, op := Op.store 146 _ _, type := _, pos := _, after := _, guard := _ } :: _) _ _; refine wpList_store_mid rfl 146 _ _ rfl _ _ _ rfl rfl (by simpa [partL_len] using hQ0.free) (by simpa [partL_len] using info_part) (all_oneCell_toArray (partL_one _ _ _ _ _ _)) ?_))
        have hfin := (hQ0.put 1 k0 f 0 0 fa).load
        refine bodyPost_ret (v := .tuple #[.agg (partL 1 k0 f 0 0 fa).toArray, .int .i64 (s.size : Int), .bool false]) (results_load3 Try.results151 (by simp) hfin (by simp) (by simp)) rfl ?_
        obtain ⟨e1, f1, fa1, h1, h2⟩ := HL2.out
        subst h2
        rw [HR.out, h1]
        exact ⟨_, _, _, _, _, _, rfl, hB.trans (below_setCells _ _ 0 (Nat.le_refl _) _ _ _), fun h => by cases h⟩
end Go.Proofs.Ytoaaklhpmhjhkaa
