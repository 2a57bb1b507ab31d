/-
  Contract of munchkeep's machine.
-/
import Derived.Test.YtoaaklhpmhjhkabKpB
namespace Go.Proofs.Ytoaaklhpmhjhkab
open Go.RowKit
open Bm

theorem int_eq {a b : Int} (h : a = b) : Value.int .i64 a = .int .i64 b := by rw [h]

set_option maxRecDepth 100000 in
set_option maxHeartbeats 8000000 in
theorem keepMachine_any (rules : Int) (s : ByteArray) (la : Option Addr) (nl lc : Nat) (lf : Nat → Int) (na : Option Addr) (nn nc : Nat) (nf : Nat → Int) (w : World) (hr : InI rules) (hs : s.size ≤ 140737488355328)
    (hl : IL la lf nl w) (hlr : ∀ i, i < nl → InI (lf i)) (hnl : nl ≤ 17592186044416) (hn : IL na nf nn w) (hnr : ∀ i, i < nn → InI (nf i)) (hnn : nn ≤ 17592186044416) :
    Calls Try.prog 8 #[.int .i64 rules, .string s, .slice la nl lc, .slice na nn nc] w (MkPost w) := by
  have hz := zero_machine
  have HP : Hid (∀ (c : Int) (n : Nat) (w' : World), InI c → 1 ≤ n → n ≤ 1000 → Calls Try.prog 15 #[.int .i64 c, .int .i64 n] w' fun e w'' => e = .returned (.int .i64 (pickN c n)) ∧ w'' = w') := fun c n w' h1 h2 h3 => pick_any c n w' h1 h2 (by omega)
  have HL : Hid (IL la lf nl w) := hl
  have HLr : Hid (∀ i, i < nl → InI (lf i)) := hlr
  have HN : Hid (IL na nf nn w) := hn
  have HNr : Hid (∀ i, i < nn → InI (nf i)) := hnr
  have HR : Hid (InI rules) := hr
  clear hl hlr hn hnr hr
  obtain ⟨W0, hW0⟩ : ∃ W, W = w.alloc (.cells #[.int .i64 0, .slice none 0 0, .slice none 0 0, .slice none 0 0] 24) := ⟨_, rfl⟩
  have x0 : Below w.heap.size w W0 := by rw [hW0]; exact box_bel _ _
  have z0 : W0.heap.size = w.heap.size + 1 := by rw [hW0]; simp
  have T0 : W0.there w.heap.size 0 4 := by rw [hW0]; exact zeroM_there w _
  have HP0 : Hid (Calls Try.prog 15 #[.int .i64 rules, .int .i64 8] W0 fun e w'' => e = .returned (.int .i64 (pickN rules 8)) ∧ w'' = W0) := HP.out rules 8 W0 HR.out (by omega) (by omega)
  go_enter Try.func8, Try.ntmps8
  go_wp2_with fail
  rw [← hW0]
  clear hW0
  refine HP0.out.mono ?_
  rintro e W0 ⟨rfl, rfl⟩
  have hp8 := pickN_lt rules (n := 8) (by omega)
  generalize pickN rules 8 = r8 at *
  clear HP0
  -- the machine
  obtain ⟨W1, hW1⟩ : ∃ W, W = W0.alloc (.cells #[.int .i64 (1 + (r8 : Int)), .slice none 0 0, .slice none 0 0, .slice none 0 0] 24) := ⟨_, rfl⟩
  have x1 : Below W0.heap.size W0 W1 := by rw [hW1]; exact box_bel _ _
  have z1 : W1.heap.size = W0.heap.size + 1 := by rw [hW1]; simp
  have t1 : TC W0.heap.size [.int .i64 (1 + (r8 : Int)), .slice none 0 0, .slice none 0 0, .slice none 0 0] W1 := by rw [hW1]; exact TC.boxed _ _ _
  have T1 := there_below T0 (by omega) x1
  have b1 := x0.trans (x1.mono x0.size)
  have HC : Hid (Calls Try.prog 28 #[.string s] W1 fun e w' => ∃ (n : Nat) (f : Nat → Int), 1 ≤ n ∧ n ≤ 256 ∧ clsTo f 256 = some n ∧ e = .returned (.tuple #[.slice (some ⟨W1.heap.size, 0, none⟩) 256 256, .int .i64 n]) ∧ NRow W1.heap.size f 256 w' ∧ Below W1.heap.size W1 w') := keepClasses_any s W1 hs
  have Hz0 : Hid (W0.heap.size = w.heap.size + 1) := z0
  have Hz1 : Hid (W1.heap.size = W0.heap.size + 1) := z1
  clear z0 z1 T0 x0 x1
  go_wp2_with fail
  rw [← hW1]
  clear hW1
  refine HC.out.mono ?_
  rintro e w2 ⟨n, f, hn1, hn2, hcl, rfl, k2, b2⟩
  have Hcl : Hid (clsTo f 256 = some n) := hcl
  clear HC hcl
  have t2 := t1.below b2
  have T2 := there_below T1 (by omega) b2
  have bw2 := b1.trans (b2.mono b1.size)
  obtain ⟨c1, c1f⟩ := t2 1 _ rfl
  obtain ⟨W3, hW3⟩ : ∃ W, W = w2.setCell ⟨W0.heap.size, 1, none⟩ (.slice (some ⟨W1.heap.size, 0, none⟩) 256 256) := ⟨_, rfl⟩
  have k3 : ∀ q, q ≠ W0.heap.size → W3.heap[q]? = w2.heap[q]? := fun q hq => by rw [hW3]; exact Below.heap_setCell w2 ⟨W0.heap.size, 1, none⟩ _ q (fun e => hq e)
  have S0 : MS w w.heap.size W0.heap.size W1.heap.size w2.heap.size (1 + (r8 : Int)) f [] [] (.slice none 0 0) (.slice none 0 0) W3 := by
    have e0 := Hz0.out
    have e1 := Hz1.out
    refine ⟨there_blk T2 (k3 _ (by omega)), ?_, k2.block (k3 _ (by omega)), OwnL.nil _ _, OwnL.nil _ _, fun k hk => (by cases hk), ?_, ?_, Nat.le_refl _, by omega, by omega, k2.lt (by omega)⟩
    · rw [hW3]; exact t2.set 1 (by simp) _
    · rw [hW3]; exact bw2.setCell (p := ⟨W0.heap.size, 1, none⟩) (show w.heap.size ≤ W0.heap.size by omega) _
    · rw [hW3]; simp [World.setCell]
  clear t1 t2 T1 T2 b1 b2 k2 bw2 k3 Hz0 Hz1
  -- how many states
  have HLs : Hid (∀ st, st ≤ nl → IL la lf st w) := fun st h i hi => HL.out i (by omega)
  have HRr : Hid (∀ st, st ≤ nl → ∀ i, i < st → InI (lf i)) := fun st h i hi => HLr.out i (by omega)
  obtain ⟨rl, hrl⟩ : ∃ rl : Int, rl = 1 + (r8 : Int) := ⟨_, rfl⟩
  rw [← hrl] at S0 ⊢
  have hrb : 1 ≤ rl ∧ rl ≤ 8 := by omega
  clear hrl hp8
  obtain ⟨m, im⟩ : ∃ m : Nat, rl + 1 = (m : Int) := ⟨(rl + 1).toNat, by omega⟩
  generalize w2.heap.size = base at *
  generalize W1.heap.size = g at *
  generalize W0.heap.size = mb at *
  have key : ((96 : Int) < (nl : Int) ∧ ∃ st, st = 96 ∧ st ≤ nl) ∨ (¬ (96 : Int) < (nl : Int) ∧ ∃ st, st = nl ∧ st ≤ 96) := by
    by_cases h : (96 : Int) < (nl : Int)
    · exact Or.inl ⟨h, 96, rfl, by omega⟩
    · exact Or.inr ⟨h, nl, rfl, by omega⟩
  rcases key with ⟨h96, st, hst, hst2⟩ | ⟨h96, st, hst, hst2⟩
  all_goals have HLt : Hid (IL la lf st w) := HLs.out st (by omega)
  all_goals have HRt : Hid (∀ i, i < st → InI (lf i)) := HRr.out st (by omega)
  all_goals have hs96 : st ≤ 96 := by omega
  all_goals clear HL HLr HLs HRr
  all_goals first | (have E96 : Hid ((96 : Int) = (st : Int)) := (by omega : (96 : Int) = (st : Int)); clear hst) | (subst hst)
  all_goals go_wp2_with fail
  all_goals rw [← hW3]
  all_goals (try rw [E96.out])
  all_goals (try clear E96)
  all_goals clear hW3 c1 c1f
  all_goals (
    go_loopw [14] (fun x w' => ∃ (i : Nat) (ls : List Int) (vl : Value), i ≤ st ∧ x = .int .i64 i ∧ ls.length = i ∧ Hid (∀ y ∈ ls, -1 ≤ y ∧ y ≤ rl - 1) ∧ MS w w.heap.size mb g base rl f ls [] vl (.slice none 0 0) w') (fun x _ => st - (intOf x).toNat)
    case atStart => exact ⟨0, [], _, by omega, rfl, rfl, fun y hy => (by cases hy), S0⟩
    case round =>
      clear S0
      obtain ⟨i, ls, vl, hi, rfl, hls, HY, S⟩ := hrel
      by_cases hlt : i < st
      · have hlt' : (i : Int) < (st : Int) := by omega
        first | (have hin : (i : Int) < (nl : Int) := by omega) | skip
        clear hst2 h96
        obtain ⟨lb_, lo_, hla, lc_⟩ := (HLt.out.below S.bel) i hlt
        subst hla
        have c0 := (S.t 0 _ rfl).1
        have HPi : Hid (∀ w', Calls Try.prog 15 #[.int .i64 (lf i), .int .i64 (m : Int)] w' fun e w'' => e = .returned (.int .i64 (pickN (lf i) m)) ∧ w'' = w') := fun w' => HP.out (lf i) m w' (HRt.out i hlt) (by omega) (by omega)
        have hpm := pickN_lt (lf i) (n := m) (by omega)
        generalize pickN (lf i) m = pv at *
        have HS : Hid (MS w w.heap.size mb g base rl f ls [] vl (.slice none 0 0) wr) := S
        clear S
        go_wp2_with fail
        go_quiet ((go_at_call 15; exact Calls.quiet_of_same (HPi.out _)))
        have S1 := HS.out.below (bel_drewN _ _ nq)
        generalize wr.drewN nq = w4 at *
        clear c0 lc_ HS
        obtain ⟨av, cv, hvl, _⟩ := S1.l.il
        subst hvl
        have d2 := (S1.t 2 _ rfl).1
        obtain ⟨hO1, _, hnw, hbs, hk1, _⟩ := S1.ready ((pv : Int) - 1)
        have HK1 : Hid (∀ w5, (w4.alloc (.cells #[.int .i64 ((pv : Int) - 1)] 3)).grownBy w5 (Value.slice av ls.length cv).ownBlock → w5.cell? ⟨mb, 2, none⟩ = some (.slice av ls.length cv) ∧ w5.frozen? ⟨mb, 2, none⟩ = false) := hk1
        have Hls : Hid (ls.length = i) := hls
        have hl96 : ls.length ≤ 96 := by omega
        have HS1 : Hid (MS w w.heap.size mb g base rl f ls [] (.slice av ls.length cv) (.slice none 0 0) w4) := S1
        clear hk1 hls S1
        go_wp2_with (first
          | (at_builtin; refine wpList_append_int (by rfl) _ _ (by rfl) base (.slice av ls.length cv) ls (by rfl) hO1 (by omega) w4.heap.size ((pv : Int) - 1) (by rfl) hnw hbs _ rfl ?_; intro q cap w5 hO5 hgrow hgb hl5; obtain ⟨c5, c5f⟩ := HK1.out w5 hgrow))
        have S5 := HS1.out.pushL rfl hO5 hgrow hgb
        go_roundw
        case rel =>
          refine ⟨i + 1, ls ++ [(pv : Int) - 1], _, by omega, by go_num, by rw [List.length_append, Hls.out]; rfl, fun y hy => ?_, S5⟩
          rcases List.mem_append.1 hy with h | h
          · exact HY.out y h
          · rw [List.mem_singleton] at h; omega
        case measure => simp [intOf]; omega
      · have hge : ¬ (i : Int) < (st : Int) := by omega
        have his : i = st := by omega
        subst his
        clear hge hlt hi HLt HRt h96 hst2
        by_cases hi0 : i = 0
        · subst hi0
          have hle : ls = [] := List.eq_nil_of_length_eq_zero hls
          subst hle
          have HY : Hid (∀ y ∈ ([-1] : List Int), -1 ≤ y ∧ y ≤ rl - 1) := fun y hy => by rw [List.mem_singleton] at hy; omega
          obtain ⟨av, cv, hvl, _⟩ := S.l.il
          subst hvl
          have d2 := (S.t 2 _ rfl).1
          obtain ⟨hO1, _, hnw, hbs, hk1, _⟩ := S.ready (-1)
          have HK1 : Hid (∀ w5, (wr.alloc (.cells #[.int .i64 (-1)] 3)).grownBy w5 (Value.slice av ([] : List Int).length cv).ownBlock → w5.cell? ⟨mb, 2, none⟩ = some (.slice av ([] : List Int).length cv) ∧ w5.frozen? ⟨mb, 2, none⟩ = false) := hk1
          have HS1 : Hid (MS w w.heap.size mb g base rl f [] [] (.slice av ([] : List Int).length cv) (.slice none 0 0) wr) := S
          clear hk1 hls S
          simp only [List.length_nil] at HK1 HS1 hO1 d2
          go_wp2_with (first
            | (at_builtin; refine wpList_append_int (by rfl) _ _ (by rfl) base (.slice av 0 cv) [] (by rfl) hO1 (by simp) wr.heap.size (-1) (by rfl) hnw hbs _ rfl ?_; intro q0 cap0 w5 hO5 hgrow hgb hl5; obtain ⟨c5, c5f⟩ := HK1.out w5 hgrow))
          have S9 : MS w w.heap.size mb g base rl f ([-1] : List Int) [] (.slice (some ⟨q0, 0, none⟩) 1 cap0) (.slice none 0 0) (w5.setCell ⟨mb, 2, none⟩ (.slice (some ⟨q0, 0, none⟩) 1 cap0)) := HS1.out.pushL rfl hO5 hgrow hgb
          clear HK1 HS1 hO1 hnw hbs d2 hgrow hgb hl5 c5 c5f hO5
          try simp only [List.length_nil, Nat.zero_add]
          generalize w5.setCell ⟨mb, 2, none⟩ (.slice (some ⟨q0, 0, none⟩) 1 cap0) = W8 at *
          go_loopw [16] (fun x w' => ∃ (j : Nat) (xs : List Int) (vx : Value), j ≤ n ∧ x = .int .i64 j ∧ xs.length = j ∧ Hid (∀ y ∈ xs, -1 ≤ y ∧ y ≤ (1 : Int) - 1) ∧ MS w w.heap.size mb g base rl f ([-1] : List Int) xs (.slice (some ⟨q0, 0, none⟩) 1 cap0) vx w') (fun x _ => n - (intOf x).toNat)
          case atStart => exact ⟨0, [], _, by omega, rfl, rfl, fun y hy => (by cases hy), S9⟩
          case round =>
            clear S9
            obtain ⟨j, xs, vx, hj, rfl, hxs, HX, S⟩ := hrel
            by_cases hjl : j < n
            · have hjl' : (j : Int) < (n : Int) := by omega
              have Hxs : Hid (xs.length = j) := hxs
              have hxb : xs.length ≤ 24576 := by omega
              clear hxs
              obtain ⟨av, cv, hvx, _⟩ := S.x.il
              subst hvx
              have d3 := (S.t 3 _ rfl).1
              by_cases hnz : nn = 0
              · have hnz' : ¬ (0 : Int) < (nn : Int) := by omega
                obtain ⟨_, hO1, hnw, hbs, _, hk1⟩ := S.ready (-1)
                have HK1 : Hid (∀ w5, (wr.alloc (.cells #[.int .i64 (-1)] 3)).grownBy w5 (Value.slice av xs.length cv).ownBlock → w5.cell? ⟨mb, 3, none⟩ = some (.slice av xs.length cv) ∧ w5.frozen? ⟨mb, 3, none⟩ = false) := hk1
                have HS1 : Hid (MS w w.heap.size mb g base rl f ([-1] : List Int) xs (.slice (some ⟨q0, 0, none⟩) 1 cap0) (.slice av xs.length cv) wr) := S
                clear hk1 S hnz
                go_wp2_with (first
                  | (at_builtin; refine wpList_append_int (by rfl) _ _ (by rfl) base (.slice av xs.length cv) xs (by rfl) hO1 (by omega) wr.heap.size (-1) (by rfl) hnw hbs _ rfl ?_; intro q cap w5 hO5 hgrow hgb hl5; obtain ⟨c5, c5f⟩ := HK1.out w5 hgrow))
                have S5 := HS1.out.pushX rfl hO5 hgrow hgb
                go_roundw
                case rel =>
                  refine ⟨j + 1, xs ++ [-1], _, by omega, by go_num, by rw [List.length_append, Hxs.out]; rfl, fun y hy => ?_, S5⟩
                  rcases List.mem_append.1 hy with h | h
                  · exact HX.out y h
                  · rw [List.mem_singleton] at h; omega
                case measure => simp [intOf]; omega
              · have hnz' : (0 : Int) < (nn : Int) := by omega
                have hmod : (j : Int).tmod (nn : Int) = ((j % nn : Nat) : Int) := by rw [Int.tmod_eq_emod_of_nonneg (by omega)]; simp
                have hkl := Nat.mod_lt j (show nn > 0 by omega)
                have hn0 : ((nn : Int) == 0) = false := beq_eq_false_iff_ne.2 (by omega)
                have hn1' : (nn : Int) ≠ 0 := by omega
                have hn2' : ((nn : Int) == -1) = false := beq_eq_false_iff_ne.2 (by omega)
                obtain ⟨k, hk⟩ : ∃ k, k = j % nn := ⟨_, rfl⟩
                rw [← hk] at hmod hkl
                clear hk
                have hkl' : (k : Int) < (nn : Int) := by omega
                obtain ⟨nb_, no_, hna, nc_⟩ := (HN.out.below S.bel) k hkl
                subst hna
                have HPi : Hid (∀ w', Calls Try.prog 15 #[.int .i64 (nf k), .int .i64 2] w' fun e w'' => e = .returned (.int .i64 (pickN (nf k) (1 + 1))) ∧ w'' = w') := fun w' => HP.out (nf k) (1 + 1) w' (HNr.out k hkl) (by omega) (by omega)
                have hpm := pickN_lt (nf k) (n := 1 + 1) (by omega)
                generalize pickN (nf k) (1 + 1) = pv at *
                obtain ⟨_, hO1, hnw, hbs, _, hk1⟩ := S.ready ((pv : Int) - 1)
                have HK1 : Hid (∀ w5, (wr.alloc (.cells #[.int .i64 ((pv : Int) - 1)] 3)).grownBy w5 (Value.slice av xs.length cv).ownBlock → w5.cell? ⟨mb, 3, none⟩ = some (.slice av xs.length cv) ∧ w5.frozen? ⟨mb, 3, none⟩ = false) := hk1
                have HS1 : Hid (MS w w.heap.size mb g base rl f ([-1] : List Int) xs (.slice (some ⟨q0, 0, none⟩) 1 cap0) (.slice av xs.length cv) wr) := S
                clear hk1 S hnz
                go_wp2_with fail
                refine (HPi.out _).mono ?_
                rintro e w4 ⟨rfl, rfl⟩
                go_wp2_with (first
                  | (at_builtin; refine wpList_append_int (by rfl) _ _ (by rfl) base (.slice av xs.length cv) xs (by rfl) hO1 (by omega) w4.heap.size ((pv : Int) - 1) (by rfl) hnw hbs _ rfl ?_; intro q cap w5 hO5 hgrow hgb hl5; obtain ⟨c5, c5f⟩ := HK1.out w5 hgrow))
                have S5 := HS1.out.pushX rfl hO5 hgrow hgb
                go_roundw
                case rel =>
                  refine ⟨j + 1, xs ++ [(pv : Int) - 1], _, by omega, by go_num, by rw [List.length_append, Hxs.out]; rfl, fun y hy => ?_, S5⟩
                  rcases List.mem_append.1 hy with h | h
                  · exact HX.out y h
                  · rw [List.mem_singleton] at h; omega
                case measure => simp [intOf]; omega
            · have hjl' : ¬ (j : Int) < (n : Int) := by omega
              obtain ⟨W9, hW9, hl9, hp9⟩ := S.last hrb Hcl.out hn1 ⟨by simp, by simp⟩ (by rw [hxs]; simp; omega) HY.out (by simpa using HX.out)
              have hrg := S.t.range
              have hth := S.z
              have hone : (#[.int .i64 rl, .slice (some ⟨g, 0, none⟩) 256 256, (.slice (some ⟨q0, 0, none⟩) 1 cap0), vx] : Array Value).all (·.oneCell') = true := all_oneCell_toArray (fun v hv => by
                simp only [List.mem_cons, List.not_mem_nil, or_false] at hv
                rcases hv with rfl | rfl | rfl | rfl
                · rfl
                · rfl
                · exact S.l.one
                · exact S.x.one)
              have HP9 : Hid (MkPost w (.returned (.tuple #[.agg #[.int .i64 rl, .slice (some ⟨g, 0, none⟩) 256 256, (.slice (some ⟨q0, 0, none⟩) 1 cap0), vx], .int .i64 n])) W9) := hp9
              have HW9 : Hid (W9 = wr.setCells w.heap.size 0 [.int .i64 rl, .slice (some ⟨g, 0, none⟩) 256 256, (.slice (some ⟨q0, 0, none⟩) 1 cap0), vx]) := hW9
              have HL9 : Hid ((loadVar 24 ⟨w.heap.size, 0, none⟩).run Try.prog W9 = .ok (.agg #[.int .i64 rl, .slice (some ⟨g, 0, none⟩) 256 256, (.slice (some ⟨q0, 0, none⟩) 1 cap0), vx]) W9) := hl9
              clear hp9 hW9 hl9 S hxs
              go_wp2_with (first
                | (refine wpList_load_mid rfl 24 _ rfl mb 0 rfl [.int .i64 rl, .slice (some ⟨g, 0, none⟩) 256 256, (.slice (some ⟨q0, 0, none⟩) 1 cap0), vx] _ hrg Try.underlying24 rfl info_machine ?_)
                | (refine wpList_store_mid rfl 24 _ _ rfl w.heap.size 0 #[.int .i64 rl, .slice (some ⟨g, 0, none⟩) 256 256, (.slice (some ⟨q0, 0, none⟩) 1 cap0), vx] rfl rfl hth info_machine hone ?_; rw [← HW9.out]))
              refine bodyPost_ret (v := .tuple #[.agg #[.int .i64 rl, .slice (some ⟨g, 0, none⟩) 256 256, (.slice (some ⟨q0, 0, none⟩) 1 cap0), vx], .int .i64 n]) (eResults_load2 Try.results8 rfl HL9.out rfl) rfl HP9.out
        · have q0 : ((i : Int) == 0) = false := beq_eq_false_iff_ne.2 (by omega)
          have Hls : Hid (ls.length = i) := hls
          obtain ⟨p, hp⟩ : ∃ p : Nat, p = i * n := ⟨_, rfl⟩
          have ip : (i : Int) * (n : Int) = (p : Int) := by rw [hp]; simp
          have hpb : p ≤ 96 * 256 := by rw [hp]; exact Nat.mul_le_mul hs96 hn2
          have Hp : Hid (p = i * n) := hp
          have S9 := S
          clear hls hp S
          go_wp2_with fail
          go_loopw [16] (fun x w' => ∃ (j : Nat) (xs : List Int) (vx : Value), j ≤ p ∧ x = .int .i64 j ∧ xs.length = j ∧ Hid (∀ y ∈ xs, -1 ≤ y ∧ y ≤ (i : Int) - 1) ∧ MS w w.heap.size mb g base rl f ls xs vl vx w') (fun x _ => p - (intOf x).toNat)
          case atStart => exact ⟨0, [], _, by omega, rfl, rfl, fun y hy => (by cases hy), S9⟩
          case round =>
            clear S9
            obtain ⟨j, xs, vx, hj, rfl, hxs, HX, S⟩ := hrel
            by_cases hjl : j < p
            · have hjl' : (j : Int) < (p : Int) := by omega
              have Hxs : Hid (xs.length = j) := hxs
              have hxb : xs.length ≤ 24576 := by omega
              clear hxs
              obtain ⟨av, cv, hvx, _⟩ := S.x.il
              subst hvx
              have d3 := (S.t 3 _ rfl).1
              by_cases hnz : nn = 0
              · have hnz' : ¬ (0 : Int) < (nn : Int) := by omega
                obtain ⟨_, hO1, hnw, hbs, _, hk1⟩ := S.ready (-1)
                have HK1 : Hid (∀ w5, (wr.alloc (.cells #[.int .i64 (-1)] 3)).grownBy w5 (Value.slice av xs.length cv).ownBlock → w5.cell? ⟨mb, 3, none⟩ = some (.slice av xs.length cv) ∧ w5.frozen? ⟨mb, 3, none⟩ = false) := hk1
                have HS1 : Hid (MS w w.heap.size mb g base rl f ls xs vl (.slice av xs.length cv) wr) := S
                clear hk1 S hnz
                go_wp2_with (first
                  | (at_builtin; refine wpList_append_int (by rfl) _ _ (by rfl) base (.slice av xs.length cv) xs (by rfl) hO1 (by omega) wr.heap.size (-1) (by rfl) hnw hbs _ rfl ?_; intro q cap w5 hO5 hgrow hgb hl5; obtain ⟨c5, c5f⟩ := HK1.out w5 hgrow))
                have S5 := HS1.out.pushX rfl hO5 hgrow hgb
                go_roundw
                case rel =>
                  refine ⟨j + 1, xs ++ [-1], _, by omega, by go_num, by rw [List.length_append, Hxs.out]; rfl, fun y hy => ?_, S5⟩
                  rcases List.mem_append.1 hy with h | h
                  · exact HX.out y h
                  · rw [List.mem_singleton] at h; omega
                case measure => simp [intOf]; omega
              · have hnz' : (0 : Int) < (nn : Int) := by omega
                have hmod : (j : Int).tmod (nn : Int) = ((j % nn : Nat) : Int) := by rw [Int.tmod_eq_emod_of_nonneg (by omega)]; simp
                have hkl := Nat.mod_lt j (show nn > 0 by omega)
                have hn0 : ((nn : Int) == 0) = false := beq_eq_false_iff_ne.2 (by omega)
                have hn1' : (nn : Int) ≠ 0 := by omega
                have hn2' : ((nn : Int) == -1) = false := beq_eq_false_iff_ne.2 (by omega)
                obtain ⟨k, hk⟩ : ∃ k, k = j % nn := ⟨_, rfl⟩
                rw [← hk] at hmod hkl
                clear hk
                have hkl' : (k : Int) < (nn : Int) := by omega
                obtain ⟨nb_, no_, hna, nc_⟩ := (HN.out.below S.bel) k hkl
                subst hna
                have HPi : Hid (∀ w', Calls Try.prog 15 #[.int .i64 (nf k), .int .i64 ((i : Int) + 1)] w' fun e w'' => e = .returned (.int .i64 (pickN (nf k) (i + 1))) ∧ w'' = w') := fun w' => HP.out (nf k) (i + 1) w' (HNr.out k hkl) (by omega) (by omega)
                have hpm := pickN_lt (nf k) (n := i + 1) (by omega)
                generalize pickN (nf k) (i + 1) = pv at *
                obtain ⟨_, hO1, hnw, hbs, _, hk1⟩ := S.ready ((pv : Int) - 1)
                have HK1 : Hid (∀ w5, (wr.alloc (.cells #[.int .i64 ((pv : Int) - 1)] 3)).grownBy w5 (Value.slice av xs.length cv).ownBlock → w5.cell? ⟨mb, 3, none⟩ = some (.slice av xs.length cv) ∧ w5.frozen? ⟨mb, 3, none⟩ = false) := hk1
                have HS1 : Hid (MS w w.heap.size mb g base rl f ls xs vl (.slice av xs.length cv) wr) := S
                clear hk1 S hnz
                go_wp2_with fail
                refine (HPi.out _).mono ?_
                rintro e w4 ⟨rfl, rfl⟩
                go_wp2_with (first
                  | (at_builtin; refine wpList_append_int (by rfl) _ _ (by rfl) base (.slice av xs.length cv) xs (by rfl) hO1 (by omega) w4.heap.size ((pv : Int) - 1) (by rfl) hnw hbs _ rfl ?_; intro q cap w5 hO5 hgrow hgb hl5; obtain ⟨c5, c5f⟩ := HK1.out w5 hgrow))
                have S5 := HS1.out.pushX rfl hO5 hgrow hgb
                go_roundw
                case rel =>
                  refine ⟨j + 1, xs ++ [(pv : Int) - 1], _, by omega, by go_num, by rw [List.length_append, Hxs.out]; rfl, fun y hy => ?_, S5⟩
                  rcases List.mem_append.1 hy with h | h
                  · exact HX.out y h
                  · rw [List.mem_singleton] at h; omega
                case measure => simp [intOf]; omega
            · have hjl' : ¬ (j : Int) < (p : Int) := by omega
              obtain ⟨W9, hW9, hl9, hp9⟩ := S.last hrb Hcl.out hn1 ⟨by rw [Hls.out]; omega, by rw [Hls.out]; omega⟩ (by rw [hxs, Hls.out]; have := Hp.out; omega) HY.out (by rw [Hls.out]; exact HX.out)
              have hrg := S.t.range
              have hth := S.z
              have hone : (#[.int .i64 rl, .slice (some ⟨g, 0, none⟩) 256 256, vl, vx] : Array Value).all (·.oneCell') = true := all_oneCell_toArray (fun v hv => by
                simp only [List.mem_cons, List.not_mem_nil, or_false] at hv
                rcases hv with rfl | rfl | rfl | rfl
                · rfl
                · rfl
                · exact S.l.one
                · exact S.x.one)
              have HP9 : Hid (MkPost w (.returned (.tuple #[.agg #[.int .i64 rl, .slice (some ⟨g, 0, none⟩) 256 256, vl, vx], .int .i64 n])) W9) := hp9
              have HW9 : Hid (W9 = wr.setCells w.heap.size 0 [.int .i64 rl, .slice (some ⟨g, 0, none⟩) 256 256, vl, vx]) := hW9
              have HL9 : Hid ((loadVar 24 ⟨w.heap.size, 0, none⟩).run Try.prog W9 = .ok (.agg #[.int .i64 rl, .slice (some ⟨g, 0, none⟩) 256 256, vl, vx]) W9) := hl9
              clear hp9 hW9 hl9 S hxs
              go_wp2_with (first
                | (refine wpList_load_mid rfl 24 _ rfl mb 0 rfl [.int .i64 rl, .slice (some ⟨g, 0, none⟩) 256 256, vl, vx] _ hrg Try.underlying24 rfl info_machine ?_)
                | (refine wpList_store_mid rfl 24 _ _ rfl w.heap.size 0 #[.int .i64 rl, .slice (some ⟨g, 0, none⟩) 256 256, vl, vx] rfl rfl hth info_machine hone ?_; rw [← HW9.out]))
              refine bodyPost_ret (v := .tuple #[.agg #[.int .i64 rl, .slice (some ⟨g, 0, none⟩) 256 256, vl, vx], .int .i64 n]) (eResults_load2 Try.results8 rfl HL9.out rfl) rfl HP9.out)
end Go.Proofs.Ytoaaklhpmhjhkab
