/-
  munchkeep's Moved.
-/
import Derived.Test.YtoaaklhpmhjhkaaKpC
import Derived.Test.YtoaaklhpmhjhkaaKpE
namespace Go.Proofs.Ytoaaklhpmhjhkaa
open Go.RowKit
open Bm

/-- A machine that is boxed at mb, and the lexer of its file at b, in a world and all that keep it. -/
structure KS (M : Mc) (A : McA) (mb b : Nat) (A2 : TbA) (W : World) : Prop where
  at_ : McAt mb M A W
  in_ : McIn M A W
  t : TbAt b (fileT (mfile M)) A2 W
  ti : TbIn (fileT (mfile M)) A2 W
theorem KS.below {M : Mc} {A : McA} {mb b : Nat} {A2 : TbA} {W W' : World} (h : KS M A mb b A2 W) (hW : Below W.heap.size W W') : KS M A mb b A2 W' :=
  ⟨h.at_.below hW, h.in_.below hW, h.t.below hW, h.ti.below hW⟩

set_option maxRecDepth 100000 in
set_option maxHeartbeats 8000000 in
theorem Moved_any (rules : Int) (s : ByteArray) (la : Option Addr) (nl lc : Nat) (lf : Nat → Int) (na : Option Addr) (nn nc : Nat) (nf : Nat → Int) (ot : Int) (w : World) (hr : InI rules) (hs : s.size ≤ 140737488355328)
    (hl : IL la lf nl w) (hlr : ∀ i, i < nl → InI (lf i)) (hnl : nl ≤ 17592186044416) (hn : IL na nf nn w) (hnr : ∀ i, i < nn → InI (nf i)) (hnn : nn ≤ 17592186044416) :
    Calls Try.prog 9 #[.int .i64 rules, .string s, .slice la nl lc, .slice na nn nc, .int .i64 ot] w fun e w' => e = .returned (.bool true) ∧ Below w.heap.size w w' := by
  have HM : Hid (Calls Try.prog 25 #[.int .i64 rules, .string s, .slice la nl lc, .slice na nn nc] w (MkPost w)) := keepMachine_any rules s la nl lc lf na nn nc nf w hr hs hl hlr hnl hn hnr hnn
  clear hr hs hl hlr hnl hn hnr hnn
  go_enter Try.func9, Try.ntmps9
  go_wp2_with fail
  refine HM.out.mono ?_
  rintro e w1 ⟨M, A, hS, rfl, hI, hB1⟩
  clear HM
  have HS : Hid (SndM M) := hS
  have hlb := hS.hd.2.1
  -- the machine, boxed
  obtain ⟨W2, hW2⟩ : ∃ W, W = w1.alloc (.cells (A.cells M) 49) := ⟨_, rfl⟩
  have x2 : Below w1.heap.size w1 W2 := by rw [hW2]; exact bel_box _ _
  have a2 : McAt w1.heap.size M A W2 := by rw [hW2]; exact McAt.boxed M A w1 _
  have i2 := hI.below x2
  have b2 := hB1.trans (x2.mono hB1.size)
  have HF : Hid (Calls Try.prog 26 #[.agg (A.cells M)] W2 (FiledPost M W2)) := filed_any M A W2 hS i2
  obtain ⟨d0, d1, d2, d3⟩ := a2
  have HA2 : Hid (McAt w1.heap.size M A W2) := ⟨d0, d1, d2, d3⟩
  have HI2 : Hid (McIn M A W2) := i2
  have HB2 : Hid (Below w.heap.size w W2) := b2
  unfold McA.cells at hW2 HF ⊢
  rw [hW2] at d0 d1 d2 d3
  clear hI hB1 x2 i2 b2 hS
  go_wp2_with fail
  rw [← hW2]
  clear hW2 d0 d1 d2 d3
  refine HF.out.mono ?_
  rintro e w3 ⟨g1, g2, vb, vd, vc, vn, rfl, hP, hB3⟩
  clear HF
  obtain ⟨A3, hA3, _⟩ := hP.tb
  rw [hA3]
  clear hP hA3 g1 g2 vb vd vc vn
  obtain ⟨W4, hW4⟩ : ∃ W, W = w3.alloc (.cells (A3.cells (packT M)) 26) := ⟨_, rfl⟩
  have x4 : Below w3.heap.size w3 W4 := by rw [hW4]; exact bel_box _ _
  have b4 := hB3.trans (x4.mono hB3.size)
  have HL : Hid (Calls Try.prog 27 #[.string (mfile M)] W4 (LexPost (mfile M) W4)) := lexer_any (mfile M) W4 (mfile_of HS.out).good.small (mfile_of HS.out).good
  have HB4 : Hid (Below W2.heap.size W2 W4) := b4
  unfold TbA.cells at hW4 ⊢
  clear hB3 x4 b4
  go_wp2_with fail
  rw [← hW4]
  clear hW4
  refine HL.out.mono ?_
  rintro e w5 ⟨b, A2, rfl, _, hT, hTF, hB5⟩
  clear HL
  have b5 := HB4.out.trans (hB5.mono HB4.out.size)
  have K5 : KS M A w1.heap.size b A2 w5 := ⟨HA2.out.below b5, HI2.out.below b5, hT, hTF.in_⟩
  have HB5 : Hid (Below w.heap.size w w5) := HB2.out.trans (b5.mono HB2.out.size)
  clear hT hTF hB5 b5 HB4 HA2 HI2 HB2
  generalize w1.heap.size = mb at *
  have HK : Hid (∀ w', Below w5.heap.size w5 w' → KS M A mb b A2 w') := fun w' h' => K5.below h'
  have HLb : Hid (∀ (x : Int) (w' : World), Below w5.heap.size w5 w' → Calls Try.prog 28 #[.pointer (some ⟨b, 0, none⟩), .int .i64 x] w' fun e w'' => e = .returned (.int .i64 (lbl (fileT (mfile M)) x)) ∧ w'' = w') := fun x w' h' => xLabel_any b _ A2 x w' (HK.out w' h').t (HK.out w' h').ti
  have HSt : Hid (∀ (x y : Int) (w' : World), Below w5.heap.size w5 w' → Calls Try.prog 29 #[.pointer (some ⟨b, 0, none⟩), .int .i64 x, .int .i64 y] w' fun e w'' => e = .returned (.int .i64 (stp (fileT (mfile M)) x y)) ∧ w'' = w') := fun x y w' h' => xStep_any b _ A2 x y w' (mfile_of HS.out).snd (HK.out w' h').t (HK.out w' h').ti
  have HWk : Hid (∀ (x y : Nat) (w' : World), x < M.nlb → y < 256 → Below w5.heap.size w5 w' → Calls Try.prog 30 #[.agg (A.cells M), .int .i64 M.k, .int .i64 x, .int .i64 y] w' fun e w'' => e = .returned (.int .i64 (M.nx (x * M.k + (M.cl y).toNat))) ∧ Below w'.heap.size w' w'') := fun x y w' hx hy h' => walk_any M A x y w' HS.out (HK.out w' h').in_ hx hy
  unfold McA.cells at HWk
  have H0 : Hid (Below w5.heap.size w5 w5) := Below.refl _ _
  clear K5
  go_wp2_with fail
  go_loopw [17] (fun x w' => ∃ i : Nat, i ≤ M.nlb ∧ x = .int .i64 i ∧ Below w5.heap.size w5 w') (fun x _ => M.nlb - (intOf x).toNat)
  case atStart => exact ⟨0, by omega, rfl, H0.out⟩
  case round =>
    obtain ⟨i, hi, rfl, hB⟩ := hrel
    obtain ⟨m0, m1, m2, m3⟩ := (HK.out wr hB).at_
    by_cases hlt : i < M.nlb
    · have hlt' : (i : Int) < (M.nlb : Int) := by omega
      have HLi : Hid (Calls Try.prog 28 #[.pointer (some ⟨b, 0, none⟩), .int .i64 i] wr fun e w'' => e = .returned (.int .i64 (M.lb i)) ∧ w'' = wr) := by
        have h := HLb.out i wr hB
        rw [mfile_lbl HS.out i hlt] at h
        exact h
      obtain ⟨gl, ol, hgl, cl⟩ := (HK.out wr hB).in_.l2 i hlt
      rw [hgl] at m2
      clear hgl
      go_wp2_with fail
      refine HLi.out.mono ?_
      rintro e w6 ⟨rfl, rfl⟩
      go_wp2_with fail
      clear m0 m1 m2 m3 cl
      go_loopw [19] (fun x w' => ∃ j : Nat, j ≤ 256 ∧ x = .int .i64 j ∧ Below w5.heap.size w5 w') (fun x _ => 256 - (intOf x).toNat)
      case atStart => exact ⟨0, by omega, rfl, hB⟩
      case round =>
        clear hB HLi
        obtain ⟨j, hj, rfl, hB⟩ := hrel
        by_cases hjl : j < 256
        · have hjl' : (j : Int) < 256 := by omega
          obtain ⟨m0, m1, m2, m3⟩ := (HK.out wr hB).at_
          have HSi : Hid (Calls Try.prog 29 #[.pointer (some ⟨b, 0, none⟩), .int .i64 i, .int .i64 j] wr fun e w'' => e = .returned (.int .i64 (M.nx (i * M.k + (M.cl j).toNat))) ∧ w'' = wr) := by
            have h := HSt.out i j wr hB
            rw [mfile_stp HS.out i j hlt hjl] at h
            exact h
          go_wp2_with fail
          refine HSi.out.mono ?_
          rintro e w7 ⟨rfl, rfl⟩
          go_wp2_with fail
          refine (HWk.out i j _ hlt hjl hB).mono ?_
          rintro e w8 ⟨rfl, hB8⟩
          have hB9 := hB.trans (hB8.mono hB.size)
          generalize M.nx (i * M.k + (M.cl j).toNat) = nv at *
          have q1 : (nv == nv) = true := by simp
          have q2 : (nv != nv) = false := by simp
          go_wp2_with fail
          go_roundw
          case rel => exact ⟨j + 1, by omega, by go_num, hB9⟩
          case measure => simp [intOf]; omega
        · have hjl' : ¬ (j : Int) < 256 := by omega
          by_cases o1 : ot < 0
          · have HSo : Hid (Calls Try.prog 29 #[.pointer (some ⟨b, 0, none⟩), .int .i64 i, .int .i64 ot] wr fun e w'' => e = .returned (.int .i64 (-1)) ∧ w'' = wr) := by
              have h := HSt.out i ot wr hB
              rw [mfile_out HS.out i ot (by omega)] at h
              exact h
            go_wp2_with fail
            refine HSo.out.mono ?_
            rintro e w7 ⟨rfl, rfl⟩
            go_wp2_with fail
            go_roundw
            case rel => exact ⟨i + 1, by omega, by go_num, hB⟩
            case measure => simp [intOf]; omega
          · by_cases o2 : 255 < ot
            · have HSo : Hid (Calls Try.prog 29 #[.pointer (some ⟨b, 0, none⟩), .int .i64 i, .int .i64 ot] wr fun e w'' => e = .returned (.int .i64 (-1)) ∧ w'' = wr) := by
                have h := HSt.out i ot wr hB
                rw [mfile_out HS.out i ot (by omega)] at h
                exact h
              go_wp2_with fail
              refine HSo.out.mono ?_
              rintro e w7 ⟨rfl, rfl⟩
              go_wp2_with fail
              go_roundw
              case rel => exact ⟨i + 1, by omega, by go_num, hB⟩
              case measure => simp [intOf]; omega
            · go_wp2_with fail
              go_roundw
              case rel => exact ⟨i + 1, by omega, by go_num, hB⟩
              case measure => simp [intOf]; omega
    · have hge : ¬ (i : Int) < (M.nlb : Int) := by omega
      have HFin : Hid (Below w.heap.size w wr) := HB5.out.trans (hB.mono HB5.out.size)
      by_cases o1 : ot < 0 ∨ (M.nlb : Int) ≤ ot
      · have HLo : Hid (Calls Try.prog 28 #[.pointer (some ⟨b, 0, none⟩), .int .i64 ot] wr fun e w'' => e = .returned (.int .i64 (-1)) ∧ w'' = wr) := by
          have h := HLb.out ot wr hB
          rw [mfile_lbl_out HS.out ot o1] at h
          exact h
        have HSo : Hid (Calls Try.prog 29 #[.pointer (some ⟨b, 0, none⟩), .int .i64 ot, .int .i64 97] wr fun e w'' => e = .returned (.int .i64 (-1)) ∧ w'' = wr) := by
          have h := HSt.out ot 97 wr hB
          rw [mfile_out HS.out ot 97 (by omega)] at h
          exact h
        by_cases o2 : ot < 0
        · clear o1
          go_wp2_with fail
          refine HLo.out.mono ?_
          rintro e w7 ⟨rfl, rfl⟩
          go_wp2_with fail
          refine HSo.out.mono ?_
          rintro e w7 ⟨rfl, rfl⟩
          go_wp2_with fail
          go_ret
          exact ⟨rfl, HFin.out⟩
        · have o3 : (M.nlb : Int) ≤ ot := by omega
          clear o1
          go_wp2_with fail
          refine HLo.out.mono ?_
          rintro e w7 ⟨rfl, rfl⟩
          go_wp2_with fail
          refine HSo.out.mono ?_
          rintro e w7 ⟨rfl, rfl⟩
          go_wp2_with fail
          go_ret
          exact ⟨rfl, HFin.out⟩
      · have o2 : ¬ ot < 0 := by omega
        have o3 : ¬ (M.nlb : Int) ≤ ot := by omega
        clear o1
        go_wp2_with fail
        go_ret
        exact ⟨rfl, HFin.out⟩
end Go.Proofs.Ytoaaklhpmhjhkaa
