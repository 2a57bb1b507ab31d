/-
  munchkeep's Munched.
-/
import Derived.Test.YtoaaklhpmhjhkaaKpI
namespace Go.Proofs.Ytoaaklhpmhjhkaa
open Go.RowKit

theorem lbl_bd {T : Tb} (h : Snd T) (s : Int) : -1 ≤ lbl T s ∧ lbl T s < T.rules := by
  have h1 := h.hd.1
  unfold lbl
  by_cases e : s < 0 ∨ (T.nlb : Int) ≤ s
  · rw [if_pos e]; omega
  · rw [if_neg e]
    have := h.hd.2.2.2 s.toNat (by omega)
    omega
theorem tkF_rule {T : Tb} (h : Snd T) {x : ByteArray} {i : Nat} : ∀ (u j : Nat) (s r l : Int), -1 ≤ r → r < T.rules → -1 ≤ (tkF T x i u j s r l).1 ∧ (tkF T x i u j s r l).1 < T.rules
  | 0, _, _, _, _, h1, h2 => ⟨h1, h2⟩
  | u + 1, j, s, r, l, h1, h2 => by
    rw [tkF]
    split
    · split
      · exact ⟨h1, h2⟩
      · split
        · exact tkF_rule h u (j + 1) _ _ _ h1 h2
        · exact tkF_rule h u (j + 1) _ _ _ (lbl_bd h _).1 (lbl_bd h _).2
    · exact ⟨h1, h2⟩
theorem tkAt_rule {T : Tb} (h : Snd T) (x : ByteArray) (i : Nat) : -1 ≤ (tkAt T x i).1 ∧ (tkAt T x i).1 < T.rules := tkF_rule h _ _ _ _ _ (by omega) (by have := h.hd.1; omega)
theorem tks_len (T : Tb) (x : ByteArray) : ∀ (u i : Nat), i ≤ x.size → (tks T x u i).length + i ≤ x.size
  | 0, i, h => by simp [tks]; omega
  | u + 1, i, h => by
    rw [tks]
    split
    · rename_i hi
      have hb := tkAt_bd T x i hi
      have := tks_len T x u (i + (tkAt T x i).2.toNat) (by omega)
      simp only [List.length_cons]
      omega
    · simp; omega
theorem tks_mem {T : Tb} {x : ByteArray} : ∀ {u i : Nat} {t : Int × Int × Int}, t ∈ tks T x u i → 0 ≤ t.2.1 ∧ t.2.1 < x.size
  | 0, i, t, h => by simp [tks] at h
  | u + 1, i, t, h => by
    rw [tks] at h
    split at h
    · rename_i hi
      rcases List.mem_cons.1 h with rfl | h
      · simp only; omega
      · exact tks_mem h
    · simp at h
theorem shiftK_zero (l : List (Int × Int × Int)) : l = l.map (shiftK 0) := by
  have : shiftK 0 = id := by funext t; simp [shiftK]
  rw [this, List.map_id]
/-- The tokens from k on, where they begin. -/
theorem drop_step {T : Tb} {x : ByteArray} {L : List (Int × Int × Int)} {k a : Nat} (h : L.drop k = tks T x x.size a) (hk : k < L.length) (ha : a ≤ x.size) :
    a < x.size ∧ L[k]? = some ((tkAt T x a).1, (a : Int), (tkAt T x a).2) ∧ L.drop (k + 1) = tks T x x.size (a + (tkAt T x a).2.toNat) := by
  have hlt : a < x.size := by
    by_cases e : a < x.size
    · exact e
    · rw [tks_end (by omega)] at h
      have := congrArg List.length h
      simp at this; omega
  obtain ⟨u, hu⟩ : ∃ u, x.size = u + 1 := ⟨x.size - 1, by omega⟩
  have hb := tkAt_bd T x a hlt
  have h2 := h
  rw [hu, tks, if_pos hlt] at h2
  refine ⟨hlt, ?_, ?_⟩
  · have h3 : (L.drop k)[0]? = some ((tkAt T x a).1, (a : Int), (tkAt T x a).2) := by rw [h2]; rfl
    rw [List.getElem?_drop, Nat.add_zero] at h3
    exact h3
  · have h3 : (L.drop k).drop 1 = tks T x u (a + (tkAt T x a).2.toNat) := by rw [h2]; rfl
    rw [List.drop_drop] at h3
    rw [h3]
    exact tks_fuel T x _ _ _ (by omega) (by omega)

set_option maxRecDepth 100000 in
set_option maxHeartbeats 8000000 in
theorem Munched_any (rules : Int) (s : ByteArray) (la : Option Addr) (nl lc : Nat) (lf : Nat → Int) (na : Option Addr) (nn nc : Nat) (nf : Nat → Int) (x : ByteArray) (w : World) (hr : InI rules) (hs : s.size ≤ 140737488355328)
    (hl : IL la lf nl w) (hlr : ∀ i, i < nl → InI (lf i)) (hnl : nl ≤ 17592186044416) (hn : IL na nf nn w) (hnr : ∀ i, i < nn → InI (nf i)) (hnn : nn ≤ 17592186044416) (hx : x.size ≤ 140737488355328) :
    Calls Try.prog 10 #[.int .i64 rules, .string s, .slice la nl lc, .slice na nn nc, .string x] w fun e w' => e = .returned (.bool true) ∧ Below w.heap.size w w' := by
  have HM : Hid (Calls Try.prog 25 #[.int .i64 rules, .string s, .slice la nl lc, .slice na nn nc] w (MkPost w)) := keepMachine_any rules s la nl lc lf na nn nc nf w hr hs hl hlr hnl hn hnr hnn
  clear hr hs hl hlr hnl hn hnr hnn
  go_enter Try.func10, Try.ntmps10
  go_wp2_with fail
  refine HM.out.mono ?_
  rintro e w1 ⟨M, A, hS, rfl, hI, hB1⟩
  clear HM
  have HS : Hid (SndM M) := hS
  -- the machine, boxed
  obtain ⟨W2, hW2⟩ : ∃ W, W = w1.alloc (.cells (A.cells M) 49) := ⟨_, rfl⟩
  have x2 : Below w1.heap.size w1 W2 := by rw [hW2]; exact bel_box _ _
  have a2 : McAt w1.heap.size M A W2 := by rw [hW2]; exact McAt.boxed M A w1 _
  have i2 := hI.below x2
  have b2 := hB1.trans (x2.mono hB1.size)
  have HF : Hid (Calls Try.prog 26 #[.agg (A.cells M)] W2 (FiledPost M W2)) := filed_any M A W2 hS i2
  obtain ⟨d0, d1, d2, d3⟩ := a2
  have HA2 : Hid (McAt w1.heap.size M A W2) := ⟨d0, d1, d2, d3⟩
  have HI2 : Hid (McIn M A W2) := i2
  have HB2 : Hid (Below w.heap.size w W2) := b2
  unfold McA.cells at hW2 HF ⊢
  rw [hW2] at d0 d1 d2 d3
  clear hI hB1 x2 i2 b2 hS
  go_wp2_with fail
  rw [← hW2]
  clear hW2 d0 d1 d2 d3
  refine HF.out.mono ?_
  rintro e w3 ⟨g1, g2, vb, vd, vc, vn, rfl, hP, hB3⟩
  clear HF
  obtain ⟨A3, hA3, _⟩ := hP.tb
  rw [hA3]
  clear hP hA3 g1 g2 vb vd vc vn
  obtain ⟨W4, hW4⟩ : ∃ W, W = w3.alloc (.cells (A3.cells (packT M)) 26) := ⟨_, rfl⟩
  have x4 : Below w3.heap.size w3 W4 := by rw [hW4]; exact bel_box _ _
  have b4 := hB3.trans (x4.mono hB3.size)
  have HL : Hid (Calls Try.prog 27 #[.string (mfile M)] W4 (LexPost (mfile M) W4)) := lexer_any (mfile M) W4 (mfile_of HS.out).good.small (mfile_of HS.out).good
  have HB4 : Hid (Below W2.heap.size W2 W4) := b4
  unfold TbA.cells at hW4 ⊢
  clear hB3 x4 b4
  go_wp2_with fail
  rw [← hW4]
  clear hW4
  refine HL.out.mono ?_
  rintro e w5 ⟨b, A2, rfl, _, hT, hTF, hB5⟩
  clear HL
  have b5 := HB4.out.trans (hB5.mono HB4.out.size)
  have K5 : KS M A w1.heap.size b A2 w5 := ⟨HA2.out.below b5, HI2.out.below b5, hT, hTF.in_⟩
  have HB5 : Hid (Below w.heap.size w w5) := HB2.out.trans (b5.mono HB2.out.size)
  clear hT hTF hB5 b5 HB4 HA2 HI2 HB2
  generalize w1.heap.size = mb at *
  have HSc : Hid (Calls Try.prog 31 #[.pointer (some ⟨b, 0, none⟩), .string x] w5 (ScanPost (fileT (mfile M)) x w5)) := xScan_any b _ A2 x w5 (mfile_of HS.out).snd K5.t K5.ti hx
  have HK : Hid (∀ w', Below w5.heap.size w5 w' → KS M A mb b A2 w') := fun w' h' => K5.below h'
  clear K5
  go_wp2_with fail
  refine HSc.out.mono ?_
  rintro e w6 ⟨v, rfl, hO, hB6⟩
  clear HSc
  by_cases hbig : 2000 < x.size
  · have hbig' : (2000 : Int) < (x.size : Int) := by omega
    have e1 : scErr x = 2 := by rw [scErr, if_pos hbig]
    have e2 : toks (fileT (mfile M)) x = [] := by rw [toks, if_pos hbig]
    rw [e2] at hO
    obtain ⟨ad, cap, rfl, _, _, _⟩ := hO.klo
    rw [e1]
    have HFin : Hid (Below w.heap.size w w6) := HB5.out.trans (hB6.mono HB5.out.size)
    clear hO e1 e2 hbig
    simp only [List.length_nil]
    go_wp2_with fail
    go_ret
    exact ⟨rfl, HFin.out⟩
  have hbig' : ¬ (2000 : Int) < (x.size : Int) := by omega
  have e1 : scErr x = 0 := by rw [scErr, if_neg hbig]
  have e2 : toks (fileT (mfile M)) x = tks (fileT (mfile M)) x x.size 0 := by rw [toks, if_neg hbig]
  rw [e1]
  have HCt : Hid (Calls Try.prog 32 #[.agg (A.cells M), .int .i64 M.k, .string x] w6 fun e w' => ∃ v, e = .returned v ∧ OwnK w6.heap.size v (toks (fileT (mfile M)) x) w' ∧ Below w6.heap.size w6 w') := keepCut_any M A x w6 HS.out (HK.out w6 hB6).in_ (by omega)
  obtain ⟨m0, m1, m2, m3⟩ := (HK.out w6 hB6).at_
  unfold McA.cells at HCt
  have He2 : Hid (toks (fileT (mfile M)) x = tks (fileT (mfile M)) x x.size 0) := e2
  clear e1 e2
  go_wp2_with fail
  clear m0 m1 m2 m3
  refine HCt.out.mono ?_
  rintro e w7 ⟨v7, rfl, hO7, hB7⟩
  clear HCt
  have hO6 := hO.below hB7
  have hB67 := hB6.trans (hB7.mono hB6.size)
  obtain ⟨L, hL⟩ : ∃ L, L = toks (fileT (mfile M)) x := ⟨_, rfl⟩
  have HL : Hid (L = tks (fileT (mfile M)) x x.size 0) := by show _ = _; rw [hL, He2.out]
  rw [← hL] at hO6 hO7
  clear hL hO He2 hB6 hB7
  have hLn : L.length ≤ 2000 := by
    have := tks_len (fileT (mfile M)) x x.size 0 (by omega)
    rw [← HL.out] at this; omega
  obtain ⟨ad, cap, rfl, _, _, k6⟩ := hO6.klo
  obtain ⟨ad7, cap7, rfl, _, _, k7⟩ := hO7.klo
  have HSm : Hid (Calls Try.prog 33 #[.slice ad L.length cap, .slice ad7 L.length cap7, .int .i64 0] w7 fun e w' => e = .returned (.bool true) ∧ Below w7.heap.size w7 w') := keepSame_any ad ad7 cap cap7 L.length 0 L L w7 (by omega) (by omega) rfl rfl k6 k7 (shiftK_zero L) (fun t ht => by
    rw [HL.out] at ht
    have := tks_mem ht
    omega)
  have HK6 : Hid (KLo ad L w7) := k6
  obtain ⟨n, hn⟩ : ∃ n, n = L.length := ⟨_, rfl⟩
  have Hn : Hid (n = L.length) := hn
  rw [← hn] at hLn HSm ⊢
  clear hO6 hO7 k6 k7 hn
  go_wp2_with fail
  refine HSm.out.mono ?_
  rintro e w8 ⟨rfl, hB8⟩
  clear HSm
  have hB9 := hB67.trans (hB8.mono hB67.size)
  have HK8 : Hid (KLo ad L w8) := HK6.out.below hB8
  have Hr : Hid (M.rules = (fileT (mfile M)).rules) := (mfile_of HS.out).teq.r
  clear hB67 hB8 HK6
  go_wp2_with fail
  go_loopw [21, 22] (fun av iv w' => ∃ k a : Nat, av = .int .i64 a ∧ iv = .int .i64 k ∧ k ≤ n ∧ a ≤ x.size ∧ Hid (L.drop k = tks (fileT (mfile M)) x x.size a) ∧ Below w8.heap.size w8 w') (fun _ iv _ => n - (intOf iv).toNat)
  case atStart => exact ⟨0, 0, rfl, rfl, by omega, by omega, by rw [List.drop_zero]; exact HL, Below.refl _ _⟩
  case round =>
    obtain ⟨k, a, rfl, rfl, hk, ha, HD, hB⟩ := hrel
    by_cases hlt : k < n
    · have hlt' : (k : Int) < (n : Int) := by omega
      have i0 : (0 : Int) ≤ (k : Int) := by omega
      obtain ⟨h1, h2, h3⟩ := drop_step HD.out (by rw [← Hn.out]; exact hlt) ha
      have hbd := tkAt_bd (fileT (mfile M)) x a h1
      have hru := tkAt_rule (mfile_of HS.out).snd x a
      rw [← Hr.out] at hru
      obtain ⟨r, ln, hrl⟩ : ∃ (r : Int) (ln : Nat), tkAt (fileT (mfile M)) x a = (r, (ln : Int)) := ⟨(tkAt (fileT (mfile M)) x a).1, (tkAt (fileT (mfile M)) x a).2.toNat, by ext <;> simp; omega⟩
      rw [hrl] at h2 h3 hbd hru
      simp only [Int.toNat_natCast] at h2 h3 hbd hru
      have HD3 : Hid (L.drop (k + 1) = tks (fileT (mfile M)) x x.size (a + ln)) := h3
      obtain ⟨g, o, rfl, p0, p1, p2⟩ := HK8.out.below hB k _ h2
      simp only at p0 p1 p2
      obtain ⟨m0, m1, m2, m3⟩ := (HK.out wr (hB9.trans (hB.mono hB9.size))).at_
      clear hrl h2 h3 HD m1 m2 m3
      have q1 : ((a : Int) == (a : Int)) = true := by simp
      have q2 : ((a : Int) != (a : Int)) = false := by simp
      have q3 : ¬ (ln : Int) < 1 := by omega
      have q4 : ¬ r < -1 := by omega
      have q5 : ¬ M.rules ≤ r := by omega
      go_wp2_with fail
      go_quiet (fail)
      go_wp2_with fail
      go_roundw
      case rel => exact ⟨k + 1, a + ln, by go_num, by go_num, by omega, by omega, HD3, hB.trans (bel_drewN _ _ _)⟩
      case measure => simp [intOf]; omega
    · have hge : ¬ (k : Int) < (n : Int) := by omega
      have hax : a = x.size := by
        have h := HD.out
        rw [List.drop_of_length_le (by rw [← Hn.out]; omega)] at h
        by_cases e : a < x.size
        · obtain ⟨u, hu⟩ : ∃ u, x.size = u + 1 := ⟨x.size - 1, by omega⟩
          rw [hu, tks, if_pos (by omega)] at h
          cases h
        · omega
      have q1 : ((a : Int) == (x.size : Int)) = true := by rw [hax]; simp
      have HFin : Hid (Below w.heap.size w wr) := HB5.out.trans ((hB9.trans (hB.mono hB9.size)).mono HB5.out.size)
      clear hax HD
      go_wp2_with fail
      go_ret
      exact ⟨rfl, HFin.out⟩
end Go.Proofs.Ytoaaklhpmhjhkaa
