/-
  munchkeep's cut.
-/
import Derived.Test.YtoaaklhpmhjhkaaKpF
import Derived.Test.YtoaaklhpmhjhkaaKpH
namespace Go.Proofs.Ytoaaklhpmhjhkaa
open Go.RowKit

theorem mfile_bd {M : Mc} (h : SndM M) (s b : Nat) (hs : s < M.nlb) (hb : b < 256) : -1 ≤ stp (fileT (mfile M)) s b ∧ stp (fileT (mfile M)) s b < M.nlb := by
  rw [mfile_stp h s b hs hb]
  have hc := h.cl b hb
  exact h.at_ s (M.cl b).toNat hs (by omega)

set_option maxRecDepth 100000 in
set_option maxHeartbeats 8000000 in
theorem keepCut_any (M : Mc) (A : McA) (x : ByteArray) (w : World) (hS : SndM M) (hI : McIn M A w) (hx : x.size ≤ 2000) :
    Calls Try.prog 32 #[.agg (A.cells M), .int .i64 M.k, .string x] w fun e w' => ∃ v, e = .returned v ∧ OwnK w.heap.size v (toks (fileT (mfile M)) x) w' ∧ Below w.heap.size w w' := by
  have hz := zero_tok
  have HS : Hid (SndM M) := hS
  obtain ⟨T, hT⟩ : ∃ T, T = fileT (mfile M) := ⟨_, rfl⟩
  have HT : Hid (T = fileT (mfile M)) := hT
  have HBd : Hid (∀ s b : Nat, s < M.nlb → b < 256 → -1 ≤ stp T s b ∧ stp T s b < M.nlb) := fun s b h1 h2 => by rw [hT]; exact mfile_bd hS s b h1 h2
  have HLb : Hid (∀ s : Nat, s < M.nlb → lbl T s = M.lb s) := fun s h1 => by rw [hT]; exact mfile_lbl hS s h1
  obtain ⟨W, hW⟩ : ∃ W, W = w.alloc (.cells (A.cells M) 49) := ⟨_, rfl⟩
  have x0 : Below w.heap.size w W := by rw [hW]; exact bel_box _ _
  have hA : McAt w.heap.size M A W := by rw [hW]; exact McAt.boxed M A w _
  have hI2 := hI.below x0
  have HM : Hid (∀ w', Below W.heap.size W w' → McAt w.heap.size M A w' ∧ McIn M A w') := fun w' h' => ⟨hA.below h', hI2.below h'⟩
  have HWk : Hid (∀ (s b : Nat) (w' : World), s < M.nlb → b < 256 → Below W.heap.size W w' → Calls Try.prog 30 #[.agg (A.cells M), .int .i64 M.k, .int .i64 s, .int .i64 b] w' fun e w'' => e = .returned (.int .i64 (stp T s b)) ∧ Below w'.heap.size w' w'') := fun s b w' hs hb h' => by
    rw [HT.out, mfile_stp HS.out s b hs hb]
    exact walk_any M A s b w' HS.out (HM.out w' h').2 hs hb
  obtain ⟨R, hR⟩ : ∃ R, R = toks T x := ⟨_, rfl⟩
  have HRR : Hid (R = toks (fileT (mfile M)) x) := by show _ = _; rw [hR, hT]
  rw [toks, if_neg (by omega)] at hR
  have HR : Hid (R = [] ++ tks T x x.size 0) := hR
  have hlb := hS.hd.2.1
  have HX : Hid (Below w.heap.size w W) := x0
  clear hR hT x0 hA hI2 hI hS
  have H0 : Hid (Below W.heap.size W W) := Below.refl _ _
  unfold McA.cells at hW HWk ⊢
  go_enter Try.func32, Try.ntmps32
  go_wp2_with fail
  rw [← hW]
  clear hW
  go_loopw [7, 8] (fun v av w' => ∃ (u i : Nat) (ls : List (Int × Int × Int)), av = .int .i64 i ∧ i ≤ x.size ∧ x.size ≤ u + i ∧ ls.length ≤ i ∧ OwnK W.heap.size v ls w' ∧ Below W.heap.size W w' ∧ Hid (R = ls ++ tks T x u i)) (fun _ av _ => x.size - (intOf av).toNat)
  case atStart => exact ⟨x.size, 0, [], rfl, by omega, by omega, by simp, OwnK.nil _ _, H0.out, HR⟩
  case round =>
    clear HR
    obtain ⟨u, i, ls, rfl, hi, hu, hls, hO, hB, HR⟩ := hrel
    by_cases hlt : i < x.size
    · have hlt' : (i : Int) < (x.size : Int) := by omega
      rcases u with _ | u0
      · omega
      obtain ⟨Wo, hWo⟩ : ∃ Wo, Wo = wr := ⟨_, rfl⟩
      rw [← hWo] at hO hB ⊢
      clear hWo
      obtain ⟨tb, htb⟩ : ∃ tb, Wo.heap.size = tb := ⟨_, rfl⟩
      have Htb : Hid (Wo.heap.size = tb) := htb
      have hlk : ∀ k, u7.ownBlock = some k → k < Wo.heap.size := fun k hk => (hO.lt k hk).2
      obtain ⟨W1, hW1⟩ : ∃ W1, W1 = Wo.alloc (.cells #[.int .i64 (-1), .int .i64 i, .int .i64 1] 69) := ⟨_, rfl⟩
      have b1 : Below Wo.heap.size Wo W1 := by rw [hW1]; exact bel_box _ _
      have t1 : TC tb [.int .i64 (-1), .int .i64 i, .int .i64 1] W1 := by rw [hW1, ← htb]; exact TC.boxed _ _ _
      have HQ : Hid (tkAt T x i = tkF T x i (x.size - i) i 0 (-1) 1) := rfl
      have hnn := tkAt_bd T x i hlt
      have HNN : Hid (1 ≤ (tkAt T x i).2 ∧ (i : Int) + (tkAt T x i).2 ≤ x.size) := hnn
      clear hnn
      go_wp2_with fail
      rw [← hW1]
      (try rw [htb])
      clear hW1
      go_loopw [10, 11] (fun st jv w' => ∃ (q j s : Nat) (r l : Int), st = .int .i64 s ∧ s < M.nlb ∧ jv = .int .i64 j ∧ i ≤ j ∧ j ≤ x.size ∧ x.size ≤ q + j ∧ TC tb [.int .i64 r, .int .i64 i, .int .i64 l] w' ∧ Below Wo.heap.size Wo w' ∧ Hid (tkAt T x i = tkF T x i q j s r l)) (fun _ jv _ => x.size - (intOf jv).toNat)
      case atStart => exact ⟨x.size - i, i, 0, -1, 1, rfl, by omega, rfl, Nat.le_refl _, by omega, by omega, t1, b1, HQ⟩
      case round =>
        clear HQ t1 b1
        obtain ⟨q, j, s, r, l, rfl, hsn, rfl, hij, hj, hq, hT, hB2, HQ⟩ := hrel
        by_cases hjl : j < x.size
        · have hjl' : (j : Int) < (x.size : Int) := by omega
          rcases q with _ | q
          · omega
          have HFb : Hid ((x[j].toNat : Int) = fb x j) := fb_at x j hjl
          have hbx := x[j].toNat_lt
          have hBW := hB.trans (hB2.mono hB.size)
          have hBD : Below W.heap.size W wr.drew := hBW.trans (Below.refl _ _).drew
          have hB2D : Below Wo.heap.size Wo wr.drew := hB2.trans (Below.refl _ _).drew
          have HC1 : Hid (Calls Try.prog 30 #[.agg #[.int .i64 M.rules, .slice A.a1 M.ncl A.c1, .slice A.a2 M.nlb A.c2, .slice A.a3 M.nnx A.c3], .int .i64 M.k, .int .i64 s, .int .i64 x[j].toNat] wr.drew fun e w'' => e = .returned (.int .i64 (stp T s x[j].toNat)) ∧ Below wr.drew.heap.size wr.drew w'') := HWk.out s x[j].toNat _ hsn hbx hBD
          have HMr : Hid (wr.drew.rangeAt w.heap.size 0 [.int .i64 M.rules, .slice A.a1 M.ncl A.c1, .slice A.a2 M.nlb A.c2, .slice A.a3 M.nnx A.c3]) := by
            obtain ⟨d0, d1, d2, d3⟩ := (HM.out _ hBD).1
            intro k v hv
            rw [Nat.zero_add]
            rcases k with _ | _ | _ | _ | k
            · cases hv; exact d0
            · cases hv; exact d1
            · cases hv; exact d2
            · cases hv; exact d3
            · simp at hv
          have hTD : TC tb [.int .i64 r, .int .i64 i, .int .i64 l] wr.drew := hT.below (Below.refl _ _).drew
          clear hT hBW hB2
          go_wp2_with fail
          refine wp_region_still_tail 7 (by kernel_rfl) (by kernel_rfl) ?_
          simp only [List.take_succ_cons, List.take_zero, List.drop_succ_cons, List.drop_zero]
          change wpStill _ _ wr.drew (fun a' => wpList _ _ _ _ a' wr.drew) _ _
          refine wpStill_loadK rfl 49 _ rfl w.heap.size 0 rfl [.int .i64 M.rules, .slice A.a1 M.ncl A.c1, .slice A.a2 M.nlb A.c2, .slice A.a3 M.nnx A.c3] _ HMr.out Try.underlying49 rfl info_machine ?_
          repeat still_step
          refine wpStill_nil ?_
          go_wp2_with fail
          refine HC1.out.mono ?_
          rintro e w6 ⟨rfl, hB6⟩
          have hbd := HBd.out s x[j].toNat hsn hbx
          have hT6 := hTD.below hB6
          have hB26 := hB2D.trans (hB6.mono hB2D.size)
          have hBW6 := hBD.trans (hB6.mono hBD.size)
          clear HC1 HMr hTD hB2D hBD hB6
          rw [HFb.out] at hbd ⊢
          obtain ⟨s', hs'⟩ : ∃ s', s' = stp T s (fb x j) := ⟨_, rfl⟩
          rw [← hs'] at hbd ⊢
          have Hs : Hid (s' = stp T s (fb x j)) := hs'
          clear hs' HFb hbx
          by_cases hn : s' = -1
          · have HP : Hid (tkAt T x i = (r, l)) := by show _ = _; rw [HQ.out, tkF_stop hjl (by rw [← Hs.out]; exact hn)]
            have q1 : (s' == -1) = true := by simpa using hn
            have hNN := HNN.out
            rw [HP.out] at hNN
            simp only at hNN
            obtain ⟨ln, hln⟩ := Int.eq_ofNat_of_zero_le (show 0 ≤ l by omega)
            subst hln
            have hT := hT6
            clear HQ Hs hn hT6
            have HR2 : Hid (R = (ls ++ [(r, (i : Int), (ln : Int))]) ++ tks T x u0 (i + ln)) := by show _ = _; rw [HR.out, tks_step hlt HP.out]; simp
            have hrg := hT.range
            have hO1 := hO.below hB26
            have hB1 := hB.trans (hB26.mono hB.size)
            have hlt1 : ∀ k, u7.ownBlock = some k → k < tb := fun k hk => by rw [← Htb.out]; exact (hO.lt k hk).2
            have k2 := (hT 2 _ rfl).1
            obtain ⟨W3, hW3⟩ : ∃ W, W = w6.alloc (.cells #[.int .i64 r, .int .i64 i, .int .i64 (ln : Int)] 69) := ⟨_, rfl⟩
            have x3 : Below w6.heap.size w6 W3 := by rw [hW3]; exact bel_box _ _
            have hO3 := hO1.below x3
            have hB3 := hB1.trans (x3.mono hB1.size)
            have hnews : ∀ j v, (tkC (r, (i : Int), (ln : Int)))[j]? = some v → W3.cell? ⟨w6.heap.size, j, none⟩ = some v := fun j v hv => by
              rw [hW3]; exact ((TC.boxed _ [.int .i64 r, .int .i64 i, .int .i64 (ln : Int)] _) j v hv).1
            have hc2 : W3.cell? ⟨tb, 2, none⟩ = some (.int .i64 (ln : Int)) := (hT.below x3 2 _ rfl).1
            have HK5 : Hid (∀ w5, W3.grownBy w5 u7.ownBlock → w5.cell? ⟨tb, 2, none⟩ = some (.int .i64 (ln : Int))) := fun w5 hg => by
              rw [World.cell?_of_block (w := W3) (a := ⟨tb, 2, none⟩) (hg.block tb (World.block_lt_of_cell? W3 _ hc2) (fun e => by have := hlt1 _ e.symm; omega))]
              exact hc2
            have HW3 : Hid (W3 = w6.alloc (.cells #[.int .i64 r, .int .i64 i, .int .i64 (ln : Int)] 69)) := hW3
            have hbw : W.heap.size ≤ W3.heap.size := hB3.size
            have hge3 := hO3.ge
            clear hW3 x3 hO1 hB1 hc2 hlt1 hT HR
            go_wp2_with (first
              | (refine wpList_load_mid rfl 69 _ rfl tb 0 rfl [.int .i64 r, .int .i64 i, .int .i64 (ln : Int)] _ hrg Try.underlying69 rfl info_tok ?_)
              | (at_builtin; rw [← HW3.out]; refine wpList_append_tok (by rfl) _ _ (by rfl) W.heap.size u7 ls (by rfl) hO3 (by omega) w6.heap.size (r, (i : Int), (ln : Int)) (by rfl) hnews hbw ?_; intro g cap w5 hO5 hgrow; have k5 := HK5.out w5 hgrow))
            go_roundw
            case rel => exact ⟨u0, i + ln, ls ++ [(r, (i : Int), (ln : Int))], by go_num, by omega, by omega, by simp; omega, by simpa using hO5, hB3.grown hgrow hbw hge3, HR2⟩
            case measure => simp [intOf]; omega
          · obtain ⟨n', hn'⟩ := Int.eq_ofNat_of_zero_le (show 0 ≤ s' by omega)
            subst hn'
            have q1 : ((n' : Int) == -1) = false := by simp
            have hn2 : n' < M.nlb := by omega
            have hn3 : (n' : Int) < (M.nlb : Int) := by omega
            obtain ⟨m0, m1, m2, m3⟩ := (HM.out _ hBW6).1
            obtain ⟨gl, ol, hgl, cl⟩ := (HM.out _ hBW6).2.l2 n' hn2
            rw [hgl] at m2
            have hlab := HLb.out n' hn2
            obtain ⟨r', hr'⟩ : ∃ r', r' = M.lb n' := ⟨_, rfl⟩
            rw [← hr'] at hlab cl
            have Hlab : Hid (lbl T (n' : Int) = r') := hlab
            clear hgl hlab hr' m0 m1 m3
            by_cases hm : r' = -1
            · have HQ1 : Hid (tkAt T x i = tkF T x i q (j + 1) n' r l) := by show _ = _; rw [HQ.out, tkF_pass hjl (by rw [← Hs.out]; exact hn) (by rw [← Hs.out, Hlab.out]; exact hm), ← Hs.out]
              have q2 : (r' == -1) = true := by simpa using hm
              have q3 : (r' != -1) = false := by simp [hm]
              clear HQ Hs Hlab hn
              go_wp2_with fail
              go_roundw
              case rel => exact ⟨q, j + 1, n', r, l, rfl, hn2, by go_num, by omega, by omega, by omega, hT6, hB26, HQ1⟩
              case measure => simp [intOf]; omega
            · have HQ1 : Hid (tkAt T x i = tkF T x i q (j + 1) n' r' ((j : Int) + 1 - i)) := by show _ = _; rw [HQ.out, tkF_take hjl (by rw [← Hs.out]; exact hn) (by rw [← Hs.out, Hlab.out]; exact hm), ← Hs.out, Hlab.out]
              have q2 : (r' == -1) = false := by simpa using hm
              have q3 : (r' != -1) = true := by simp [hm]
              obtain ⟨k0, k0f⟩ := hT6 0 _ rfl
              have hT7 := hT6.set 0 (by simp) (.int .i64 r')
              obtain ⟨k2, k2f⟩ := hT7 2 _ rfl
              have hT8 := hT7.set 2 (by simp) (.int .i64 ((j : Int) + 1 - i))
              have HT8 : Hid (TC tb [.int .i64 r', .int .i64 i, .int .i64 ((j : Int) + 1 - i)] ((w6.setCell ⟨tb, 0, none⟩ (.int .i64 r')).setCell ⟨tb, 2, none⟩ (.int .i64 ((j : Int) + 1 - i)))) := hT8
              have HB8 : Hid (Below Wo.heap.size Wo ((w6.setCell ⟨tb, 0, none⟩ (.int .i64 r')).setCell ⟨tb, 2, none⟩ (.int .i64 ((j : Int) + 1 - i)))) := (hB26.setCell (p := ⟨tb, 0, none⟩) (show Wo.heap.size ≤ tb by rw [Htb.out]; exact Nat.le_refl _) _).setCell (p := ⟨tb, 2, none⟩) (show Wo.heap.size ≤ tb by rw [Htb.out]; exact Nat.le_refl _) _
              clear HQ Hs Hlab hn hT6 hT7 hT8 htb
              go_wp2_with fail
              go_roundw
              case rel => exact ⟨q, j + 1, n', r', (j : Int) + 1 - i, rfl, hn2, by go_num, by omega, by omega, by omega, HT8.out, HB8.out, HQ1⟩
              case measure => simp [intOf]; omega
        · have hjl' : ¬ (j : Int) < (x.size : Int) := by omega
          have HP : Hid (tkAt T x i = (r, l)) := by show _ = _; rw [HQ.out, tkF_end (by omega)]
          have hNN := HNN.out
          rw [HP.out] at hNN
          simp only at hNN
          obtain ⟨ln, hln⟩ := Int.eq_ofNat_of_zero_le (show 0 ≤ l by omega)
          subst hln
          clear HQ
          have HR2 : Hid (R = (ls ++ [(r, (i : Int), (ln : Int))]) ++ tks T x u0 (i + ln)) := by show _ = _; rw [HR.out, tks_step hlt HP.out]; simp
          have hrg := hT.range
          have hO1 := hO.below hB2
          have hB1 := hB.trans (hB2.mono hB.size)
          have hlt1 : ∀ k, u7.ownBlock = some k → k < tb := fun k hk => by rw [← Htb.out]; exact (hO.lt k hk).2
          have k2 := (hT 2 _ rfl).1
          obtain ⟨W3, hW3⟩ : ∃ W, W = wr.alloc (.cells #[.int .i64 r, .int .i64 i, .int .i64 (ln : Int)] 69) := ⟨_, rfl⟩
          have x3 : Below wr.heap.size wr W3 := by rw [hW3]; exact bel_box _ _
          have hO3 := hO1.below x3
          have hB3 := hB1.trans (x3.mono hB1.size)
          have hnews : ∀ j v, (tkC (r, (i : Int), (ln : Int)))[j]? = some v → W3.cell? ⟨wr.heap.size, j, none⟩ = some v := fun j v hv => by
            rw [hW3]; exact ((TC.boxed _ [.int .i64 r, .int .i64 i, .int .i64 (ln : Int)] _) j v hv).1
          have hc2 : W3.cell? ⟨tb, 2, none⟩ = some (.int .i64 (ln : Int)) := (hT.below x3 2 _ rfl).1
          have HK5 : Hid (∀ w5, W3.grownBy w5 u7.ownBlock → w5.cell? ⟨tb, 2, none⟩ = some (.int .i64 (ln : Int))) := fun w5 hg => by
            rw [World.cell?_of_block (w := W3) (a := ⟨tb, 2, none⟩) (hg.block tb (World.block_lt_of_cell? W3 _ hc2) (fun e => by have := hlt1 _ e.symm; omega))]
            exact hc2
          have HW3 : Hid (W3 = wr.alloc (.cells #[.int .i64 r, .int .i64 i, .int .i64 (ln : Int)] 69)) := hW3
          have hbw : W.heap.size ≤ W3.heap.size := hB3.size
          have hge3 := hO3.ge
          clear hW3 x3 hO1 hB1 hc2 hlt1 hT HR
          go_wp2_with (first
            | (refine wpList_load_mid rfl 69 _ rfl tb 0 rfl [.int .i64 r, .int .i64 i, .int .i64 (ln : Int)] _ hrg Try.underlying69 rfl info_tok ?_)
            | (at_builtin; rw [← HW3.out]; refine wpList_append_tok (by rfl) _ _ (by rfl) W.heap.size u7 ls (by rfl) hO3 (by omega) wr.heap.size (r, (i : Int), (ln : Int)) (by rfl) hnews hbw ?_; intro g cap w5 hO5 hgrow; have k5 := HK5.out w5 hgrow))
          go_roundw
          case rel => exact ⟨u0, i + ln, ls ++ [(r, (i : Int), (ln : Int))], by go_num, by omega, by omega, by simp; omega, by simpa using hO5, hB3.grown hgrow hbw hge3, HR2⟩
          case measure => simp [intOf]; omega
    · have hge : ¬ (i : Int) < (x.size : Int) := by omega
      have HR1 : Hid (R = ls) := by show _ = _; rw [HR.out, tks_end (by omega)]; simp
      clear HR
      go_wp2_with fail
      go_ret
      refine ⟨u7, rfl, ?_, HX.out.trans (hB.mono HX.out.size)⟩
      rw [← HRR.out, HR1.out]
      have := HX.out.size
      exact ⟨hO.1, hO.2.imp id (fun ⟨g, cap, cur, a, b, c⟩ => ⟨g, cap, cur, a, by omega, c⟩)⟩
end Go.Proofs.Ytoaaklhpmhjhkaa
