/-
  The reference's Scan.
-/
import Derived.Test.YtoaaklhpmhjhkaaScB
namespace Go.Proofs.Ytoaaklhpmhjhkaa
open Go.RowKit

theorem lbl_none (T : Tb) : lbl T (-1) = -1 := by unfold lbl; rw [if_pos (Or.inl (by omega))]
theorem OwnK.setOther {base : Nat} {v : Value} {l : List (Int × Int × Int)} {w : World} (h : OwnK base v l w) (a : Addr) (ha : v.ownBlock ≠ some a.block) (u : Value) : OwnK base v l (w.setCell a u) := ownsRow_setCell_other h ha u
theorem OwnK.mono {base base' : Nat} {v : Value} {l : List (Int × Int × Int)} {w : World} (h : OwnK base v l w) (hb : base' ≤ base) : OwnK base' v l w := ⟨h.1, h.2.imp id (fun ⟨g, cap, cur, a, b, c⟩ => ⟨g, cap, cur, a, Nat.le_trans hb b, c⟩)⟩

set_option maxRecDepth 100000 in
set_option maxHeartbeats 4000000 in
theorem refScan_any (T : Tb) (B : TbA) (x : ByteArray) (w : World) (hS : Snd T) (hI : TbIn T B w) (hx : x.size ≤ 140737488355328) :
    Calls Try.prog 21 #[.agg (B.cells T), .string x] w (ScanPost T x w) := by
  obtain ⟨W0, hW0⟩ : ∃ W, W = w.alloc (.cells (B.cells T) 26) := ⟨_, rfl⟩
  have x0 : Below w.heap.size w W0 := by rw [hW0]; exact bel_box _ _
  have atB : TbAt w.heap.size T B W0 := by rw [hW0]; exact TbAt.boxed T B w _
  have inB := hI.below x0
  unfold TbA.cells at hW0
  unfold TbA.cells
  by_cases hb : 2000 < x.size
  · have hb' : (2000 : Int) < (x.size : Int) := by omega
    have HR : Hid (toks T x = []) := by show _ = _; rw [toks, if_pos hb]
    have HE : Hid (scErr x = 2) := by show _ = _; rw [scErr, if_pos hb]
    clear hI hS hb atB inB
    go_enter Try.func21, Try.ntmps21
    go_wp2_with fail
    go_ret2
    rw [← hW0]
    refine ⟨.slice none 0 0, ?_, ?_, x0⟩
    · rw [HE.out]; rfl
    · rw [HR.out]; exact OwnK.nil _ _
  have hb' : ¬ (2000 : Int) < (x.size : Int) := by omega
  have hz := zero_tok
  obtain ⟨R, hR⟩ : ∃ R, R = toks T x := ⟨_, rfl⟩
  have HRR : Hid (R = toks T x) := hR
  rw [toks, if_neg hb] at hR
  have HR : Hid (R = [] ++ tks T x x.size 0) := hR
  have HE : Hid (scErr x = 0) := by show _ = _; rw [scErr, if_neg hb]
  clear hR
  have HStep : Hid (∀ w' (s c : Int), Below W0.heap.size W0 w' → Calls Try.prog 48 #[.agg #[.int .i64 T.rules, .slice B.a1 T.ncl B.c1, .slice B.a2 T.nlb B.c2, .slice B.a3 T.nbs B.c3, .slice B.a4 T.ndf B.c4, .slice B.a5 T.nck B.c5, .slice B.a6 T.nnx B.c6], .int .i64 s, .int .i64 c] w' fun e w'' => e = .returned (.int .i64 (stp T s c)) ∧ Below w'.heap.size w' w'') := fun w' s c h' => refStep_any T B s c w' hS (inB.below h')
  have HLbl : Hid (∀ w' (s : Int), Below W0.heap.size W0 w' → Calls Try.prog 49 #[.agg #[.int .i64 T.rules, .slice B.a1 T.ncl B.c1, .slice B.a2 T.nlb B.c2, .slice B.a3 T.nbs B.c3, .slice B.a4 T.ndf B.c4, .slice B.a5 T.nck B.c5, .slice B.a6 T.nnx B.c6], .int .i64 s] w' fun e w'' => e = .returned (.int .i64 (lbl T s)) ∧ Below w'.heap.size w' w'') := fun w' s h' => refLabel_any T B s w' (inB.below h')
  have HBx : Hid (∀ w', Below W0.heap.size W0 w' → TbAt w.heap.size T B w') := fun w' h' => atB.below h'
  clear hI hS atB inB
  go_enter Try.func21, Try.ntmps21
  go_wp2_with fail
  rw [← hW0]
  clear hW0
  go_loopw [6, 7] (fun v av w' => ∃ (u i : Nat) (ls : List (Int × Int × Int)), av = .int .i64 i ∧ i ≤ x.size ∧ x.size ≤ u + i ∧ ls.length ≤ i ∧ OwnK W0.heap.size v ls w' ∧ Below W0.heap.size W0 w' ∧ Hid (R = ls ++ tks T x u i)) (fun _ av _ => x.size - (intOf av).toNat)
  case atStart => exact ⟨x.size, 0, [], rfl, by omega, by omega, by simp, OwnK.nil _ _, Below.refl _ _, HR⟩
  case round =>
    clear HR
    obtain ⟨u, i, ls, rfl, hi, hu, hls, hO, hB, HR⟩ := hrel
    by_cases hlt : i < x.size
    · have hlt' : (i : Int) < (x.size : Int) := by omega
      rcases u with _ | u
      · omega
      obtain ⟨Rk, hRk⟩ : ∃ Rk, Rk = tkAt T x i := ⟨_, rfl⟩
      have HRk : Hid (Rk = tkAt T x i) := hRk
      have HR0 : Hid (Rk = tkF T x i (x.size - i) i 0 (-1) 1) := hRk
      clear hRk
      obtain ⟨W1, hW1⟩ : ∃ W, W = wr.alloc (.cells #[.int .i64 (-1), .int .i64 i, .int .i64 1] 69) := ⟨_, rfl⟩
      have x1 : Below wr.heap.size wr W1 := by rw [hW1]; exact bel_box _ _
      have hO1 := hO.below x1
      have hB1 := hB.trans (x1.mono hB.size)
      have hT1 : TC wr.heap.size [.int .i64 (-1), .int .i64 i, .int .i64 1] W1 := by rw [hW1]; exact TC.boxed _ _ _
      have hvk : ∀ k, u6.ownBlock = some k → k < wr.heap.size := fun k hk => (hO.lt k hk).2
      have hkb : W0.heap.size ≤ wr.heap.size := hB.size
      clear hO hB x1
      go_wp2_with fail
      rw [← hW1]
      clear hW1
      generalize wr.heap.size = kb at *
      generalize u6 = v6 at *
      go_loopw [9, 10] (fun sv jv w' => ∃ (q j : Nat) (s r l : Int), sv = .int .i64 s ∧ jv = .int .i64 j ∧ i ≤ j ∧ j ≤ x.size ∧ x.size ≤ q + j ∧ 1 ≤ l ∧ (i : Int) + l ≤ x.size ∧ TC kb [.int .i64 r, .int .i64 i, .int .i64 l] w' ∧ OwnK W0.heap.size v6 ls w' ∧ Below W0.heap.size W0 w' ∧ ((s ≠ -1 ∧ Hid (Rk = tkF T x i q j s r l)) ∨ (s = -1 ∧ Hid (Rk = (r, l))))) (fun _ jv _ => x.size - (intOf jv).toNat)
      case atStart => exact ⟨x.size - i, i, 0, -1, 1, rfl, rfl, Nat.le_refl _, by omega, by omega, by omega, by omega, hT1, hO1, hB1, Or.inl ⟨by omega, HR0⟩⟩
      case round =>
        clear HR0 hT1 hO1 hB1
        obtain ⟨q, j, s, r, l, rfl, rfl, hij, hj, hq, hl1, hl2, hT, hO, hB, hcase⟩ := hrel
        rcases hcase with ⟨hs, HX⟩ | ⟨rfl, HX⟩
        · by_cases hjl : j < x.size
          · have hjl' : (j : Int) < (x.size : Int) := by omega
            have qs : (s == -1) = false := by simpa using hs
            have qs2 : (s != -1) = true := by simp [hs]
            rcases q with _ | q
            · omega
            have HF : Hid ((x[j].toNat : Int) = fb x j) := fb_at x j hjl
            have hbx := x[j].toNat_lt
            have HWr : Hid (IntKind.i64.wrap (fb x j) = fb x j) := by
              have h := fb_bd x j
              show _ = _
              rw [IntKind.wrap_i64]; omega
            obtain ⟨p0, p1, p2, p3, p4, p5, p6⟩ := HBx.out wr hB
            go_wp2_with fail
            go_region_with ((go_at_call 48; refine Calls.mono (HStep.out _ s _ hB.drew) ?_; rintro e w2 ⟨rfl, hW2⟩))
            all_goals
              clear p0 p1 p2 p3 p4 p5 p6
              have hW2' : Below wr.heap.size wr w2 := (Below.refl _ _).drew.trans hW2
              have hT2 := hT.below hW2'
              have hO2 := hO.below hW2'
              have hB2 := hB.trans (hW2'.mono hB.size)
              clear hW2 hW2' hT hO hB
              rw [HF.out, HWr.out]
              clear hbx
              obtain ⟨s', hs'⟩ : ∃ s', s' = stp T s (fb x j) := ⟨_, rfl⟩
              rw [← hs']
              have Hs : Hid (s' = stp T s (fb x j)) := hs'
              clear hs'
              have hr := (HBx.out w2 hB2).range
              unfold TbA.cells at hr
              go_wp2_with (first | (refine wpList_load_mid rfl 26 _ rfl w.heap.size 0 rfl [.int .i64 T.rules, .slice B.a1 T.ncl B.c1, .slice B.a2 T.nlb B.c2, .slice B.a3 T.nbs B.c3, .slice B.a4 T.ndf B.c4, .slice B.a5 T.nck B.c5, .slice B.a6 T.nnx B.c6] _ hr Try.underlying26 rfl info_tables ?_))
              refine (HLbl.out _ s' hB2).mono ?_
              rintro e w3 ⟨rfl, hW3⟩
              have hT3 := hT2.below hW3
              have hO3 := hO2.below hW3
              have hB3 := hB2.trans (hW3.mono hB2.size)
              clear hT2 hO2 hB2 hW3 hr
              obtain ⟨r', hr'⟩ : ∃ r', r' = lbl T s' := ⟨_, rfl⟩
              rw [← hr']
              have Hr : Hid (r' = lbl T s') := hr'
              clear hr'
              by_cases hm : r' = -1
              · have q2 : (r' == -1) = true := by simpa using hm
                have q3 : (r' != -1) = false := by simp [hm]
                have HR1 : Hid ((s' ≠ -1 ∧ Hid (Rk = tkF T x i q (j + 1) s' r l)) ∨ (s' = -1 ∧ Hid (Rk = (r, l)))) := by
                  by_cases hn : s' = -1
                  · exact Or.inr ⟨hn, by show _ = _; rw [HX.out, tkF_stop hjl (by rw [← Hs.out]; exact hn)]⟩
                  · exact Or.inl ⟨hn, by show _ = _; rw [HX.out, tkF_pass hjl (by rw [← Hs.out]; exact hn) (by rw [← Hs.out, ← Hr.out]; exact hm), ← Hs.out]⟩
                clear HX Hs Hr
                go_wp2_with fail
                go_roundw
                case rel => exact ⟨q, j + 1, s', r, l, rfl, by go_num, by omega, by omega, by omega, hl1, hl2, hT3, hO3, hB3, HR1.out⟩
                case measure => simp [intOf]; omega
              · have q2 : (r' == -1) = false := by simpa using hm
                have q3 : (r' != -1) = true := by simp [hm]
                have hn : s' ≠ -1 := fun e => hm (by rw [Hr.out, e, lbl_none])
                have HR1 : Hid (Rk = tkF T x i q (j + 1) s' r' ((j : Int) + 1 - i)) := by show _ = _; rw [HX.out, tkF_take hjl (by rw [← Hs.out]; exact hn) (by rw [← Hs.out, ← Hr.out]; exact hm), ← Hs.out, ← Hr.out]
                obtain ⟨k0, k0f⟩ := hT3 0 _ rfl
                have hT4 := hT3.set 0 (by simp) (.int .i64 r')
                obtain ⟨k2, k2f⟩ := hT4 2 _ rfl
                have hT5 := hT4.set 2 (by simp) (.int .i64 ((j : Int) + 1 - i))
                have hne : v6.ownBlock ≠ some kb := fun e => by have := hvk _ e; omega
                have hO5 := (hO3.setOther ⟨kb, 0, none⟩ hne (.int .i64 r')).setOther ⟨kb, 2, none⟩ hne (.int .i64 ((j : Int) + 1 - i))
                have hB5 := (hB3.setCell (p := ⟨kb, 0, none⟩) hkb (.int .i64 r')).setCell (p := ⟨kb, 2, none⟩) hkb (.int .i64 ((j : Int) + 1 - i))
                simp only [List.set] at hT4 hT5 k2
                clear HX Hs Hr hT4
                go_wp2_with fail
                go_roundw
                case rel => exact ⟨q, j + 1, s', r', (j : Int) + 1 - i, rfl, by go_num, by omega, by omega, by omega, by omega, by omega, hT5, hO5, hB5, Or.inl ⟨hn, HR1⟩⟩
                case measure => simp [intOf]; omega
          · have hge : ¬ (j : Int) < (x.size : Int) := by omega
            have HX : Hid (Rk = (r, l)) := by show _ = _; rw [HX.out, tkF_end (by omega)]
            clear HStep HLbl
            obtain ⟨ln, rfl⟩ := Int.eq_ofNat_of_zero_le (show 0 ≤ l by omega)
            have HR1 : Hid (R = (ls ++ [(r, (i : Int), (ln : Int))]) ++ tks T x u (i + ln)) := by show _ = _; rw [HR.out, tks_step hlt (by rw [← HRk.out, HX.out])]; simp
            clear HX
            obtain ⟨W3, hW3⟩ : ∃ W, W = wr.alloc (.cells #[.int .i64 r, .int .i64 i, .int .i64 (ln : Int)] 69) := ⟨_, rfl⟩
            have x3 : Below wr.heap.size wr W3 := by rw [hW3]; exact bel_box wr _
            have hO3 := hO.below x3
            have hB3 := hB.trans (x3.mono hB.size)
            have hTC3 := hT.below x3
            have hnews : ∀ j v, (tkC (r, (i : Int), (ln : Int)))[j]? = some v → W3.cell? ⟨wr.heap.size, j, none⟩ = some v := fun j v hv => by
              rw [hW3]; exact ((TC.boxed _ [.int .i64 r, .int .i64 i, .int .i64 (ln : Int)] _) j v hv).1
            have hc2 := (hTC3 2 _ rfl).1
            have HK : Hid (∀ w5, W3.grownBy w5 v6.ownBlock → w5.cell? ⟨kb, 2, none⟩ = some (.int .i64 (ln : Int))) := fun w5 hg => by
              rw [World.cell?_of_block (w := W3) (a := ⟨kb, 2, none⟩) (hg.block kb (World.block_lt_of_cell? W3 _ hc2) (fun e => by have := hvk _ e.symm; omega))]
              exact hc2
            have HW3 : Hid (W3 = wr.alloc (.cells #[.int .i64 r, .int .i64 i, .int .i64 (ln : Int)] 69)) := hW3
            have hbw : W0.heap.size ≤ W3.heap.size := hB3.size
            have hge3 := hO3.ge
            have hrk := hT.range
            clear hW3 x3 hO hB hc2 hT hTC3
            go_wp2_with (first | (refine wpList_load_mid rfl 69 _ rfl kb 0 rfl [.int .i64 r, .int .i64 i, .int .i64 (ln : Int)] _ hrk Try.underlying69 rfl info_tok ?_) | (at_builtin; rw [← HW3.out]; refine wpList_append_tok (by rfl) _ _ (by rfl) W0.heap.size v6 ls (by rfl) hO3 (by omega) wr.heap.size (r, (i : Int), (ln : Int)) (by rfl) hnews hbw ?_; intro g cap w5 hO5 hgrow; have k2 := HK.out w5 hgrow))
            go_roundw
            case rel => exact ⟨u, i + ln, ls ++ [(r, (i : Int), (ln : Int))], by go_num, by omega, by omega, by simp; omega, by simpa using hO5, hB3.grown hgrow hbw hge3, HR1⟩
            case measure => simp [intOf]; omega
        · by_cases hjl : j < x.size
          · have hjl' : (j : Int) < (x.size : Int) := by omega
            clear HStep HLbl
            obtain ⟨ln, rfl⟩ := Int.eq_ofNat_of_zero_le (show 0 ≤ l by omega)
            have HR1 : Hid (R = (ls ++ [(r, (i : Int), (ln : Int))]) ++ tks T x u (i + ln)) := by show _ = _; rw [HR.out, tks_step hlt (by rw [← HRk.out, HX.out])]; simp
            clear HX
            obtain ⟨W3, hW3⟩ : ∃ W, W = wr.alloc (.cells #[.int .i64 r, .int .i64 i, .int .i64 (ln : Int)] 69) := ⟨_, rfl⟩
            have x3 : Below wr.heap.size wr W3 := by rw [hW3]; exact bel_box wr _
            have hO3 := hO.below x3
            have hB3 := hB.trans (x3.mono hB.size)
            have hTC3 := hT.below x3
            have hnews : ∀ j v, (tkC (r, (i : Int), (ln : Int)))[j]? = some v → W3.cell? ⟨wr.heap.size, j, none⟩ = some v := fun j v hv => by
              rw [hW3]; exact ((TC.boxed _ [.int .i64 r, .int .i64 i, .int .i64 (ln : Int)] _) j v hv).1
            have hc2 := (hTC3 2 _ rfl).1
            have HK : Hid (∀ w5, W3.grownBy w5 v6.ownBlock → w5.cell? ⟨kb, 2, none⟩ = some (.int .i64 (ln : Int))) := fun w5 hg => by
              rw [World.cell?_of_block (w := W3) (a := ⟨kb, 2, none⟩) (hg.block kb (World.block_lt_of_cell? W3 _ hc2) (fun e => by have := hvk _ e.symm; omega))]
              exact hc2
            have HW3 : Hid (W3 = wr.alloc (.cells #[.int .i64 r, .int .i64 i, .int .i64 (ln : Int)] 69)) := hW3
            have hbw : W0.heap.size ≤ W3.heap.size := hB3.size
            have hge3 := hO3.ge
            have hrk := hT.range
            clear hW3 x3 hO hB hc2 hT hTC3
            go_wp2_with (first | (refine wpList_load_mid rfl 69 _ rfl kb 0 rfl [.int .i64 r, .int .i64 i, .int .i64 (ln : Int)] _ hrk Try.underlying69 rfl info_tok ?_) | (at_builtin; rw [← HW3.out]; refine wpList_append_tok (by rfl) _ _ (by rfl) W0.heap.size v6 ls (by rfl) hO3 (by omega) wr.heap.size (r, (i : Int), (ln : Int)) (by rfl) hnews hbw ?_; intro g cap w5 hO5 hgrow; have k2 := HK.out w5 hgrow))
            go_roundw
            case rel => exact ⟨u, i + ln, ls ++ [(r, (i : Int), (ln : Int))], by go_num, by omega, by omega, by simp; omega, by simpa using hO5, hB3.grown hgrow hbw hge3, HR1⟩
            case measure => simp [intOf]; omega
          · have hge : ¬ (j : Int) < (x.size : Int) := by omega
            clear HStep HLbl
            obtain ⟨ln, rfl⟩ := Int.eq_ofNat_of_zero_le (show 0 ≤ l by omega)
            have HR1 : Hid (R = (ls ++ [(r, (i : Int), (ln : Int))]) ++ tks T x u (i + ln)) := by show _ = _; rw [HR.out, tks_step hlt (by rw [← HRk.out, HX.out])]; simp
            clear HX
            obtain ⟨W3, hW3⟩ : ∃ W, W = wr.alloc (.cells #[.int .i64 r, .int .i64 i, .int .i64 (ln : Int)] 69) := ⟨_, rfl⟩
            have x3 : Below wr.heap.size wr W3 := by rw [hW3]; exact bel_box wr _
            have hO3 := hO.below x3
            have hB3 := hB.trans (x3.mono hB.size)
            have hTC3 := hT.below x3
            have hnews : ∀ j v, (tkC (r, (i : Int), (ln : Int)))[j]? = some v → W3.cell? ⟨wr.heap.size, j, none⟩ = some v := fun j v hv => by
              rw [hW3]; exact ((TC.boxed _ [.int .i64 r, .int .i64 i, .int .i64 (ln : Int)] _) j v hv).1
            have hc2 := (hTC3 2 _ rfl).1
            have HK : Hid (∀ w5, W3.grownBy w5 v6.ownBlock → w5.cell? ⟨kb, 2, none⟩ = some (.int .i64 (ln : Int))) := fun w5 hg => by
              rw [World.cell?_of_block (w := W3) (a := ⟨kb, 2, none⟩) (hg.block kb (World.block_lt_of_cell? W3 _ hc2) (fun e => by have := hvk _ e.symm; omega))]
              exact hc2
            have HW3 : Hid (W3 = wr.alloc (.cells #[.int .i64 r, .int .i64 i, .int .i64 (ln : Int)] 69)) := hW3
            have hbw : W0.heap.size ≤ W3.heap.size := hB3.size
            have hge3 := hO3.ge
            have hrk := hT.range
            clear hW3 x3 hO hB hc2 hT hTC3
            go_wp2_with (first | (refine wpList_load_mid rfl 69 _ rfl kb 0 rfl [.int .i64 r, .int .i64 i, .int .i64 (ln : Int)] _ hrk Try.underlying69 rfl info_tok ?_) | (at_builtin; rw [← HW3.out]; refine wpList_append_tok (by rfl) _ _ (by rfl) W0.heap.size v6 ls (by rfl) hO3 (by omega) wr.heap.size (r, (i : Int), (ln : Int)) (by rfl) hnews hbw ?_; intro g cap w5 hO5 hgrow; have k2 := HK.out w5 hgrow))
            go_roundw
            case rel => exact ⟨u, i + ln, ls ++ [(r, (i : Int), (ln : Int))], by go_num, by omega, by omega, by simp; omega, by simpa using hO5, hB3.grown hgrow hbw hge3, HR1⟩
            case measure => simp [intOf]; omega
    · have hge : ¬ (i : Int) < (x.size : Int) := by omega
      have HR1 : Hid (R = ls) := by show _ = _; rw [HR.out, tks_end (by omega)]; simp
      clear HR
      go_wp2_with fail
      go_ret2
      refine ⟨u6, ?_, ?_, x0.trans (hB.mono x0.size)⟩
      · rw [HE.out]; rfl
      · rw [← HRR.out, HR1.out]; exact hO.mono x0.size
end Go.Proofs.Ytoaaklhpmhjhkaa
