/-
  Contract of the reference's Pack.
-/
import Derived.Test.YtoaaklhpmhjhkaaPkJ
import Derived.Test.YtoaaklhpmhjhkaaKpD
namespace Go.Proofs.Ytoaaklhpmhjhkaa
open Go.RowKit
open Bm

set_option maxRecDepth 100000 in
set_option maxHeartbeats 16000000 in
theorem refPack_any (M : Mc) (A : McA) (w : World) (hs : McSz M) (hI : McIn M A w) : Calls Try.prog 24 #[.agg (A.cells M)] w (RefPost M w) := by
  have hz := zero_tables
  obtain ⟨W0, hW0⟩ : ∃ W, W = w.alloc (.cells (A.cells M) 49) := ⟨_, rfl⟩
  obtain ⟨W1, hW1⟩ : ∃ W, W = W0.alloc (.cells #[.int .i64 0, .slice none 0 0, .slice none 0 0, .slice none 0 0, .slice none 0 0, .slice none 0 0, .slice none 0 0] 26) := ⟨_, rfl⟩
  have x0 : Below w.heap.size w W0 := by rw [hW0]; exact bel_box _ _
  have x1 : Below W0.heap.size W0 W1 := by rw [hW1]; exact bel_box _ _
  have z0 : W0.heap.size = w.heap.size + 1 := by rw [hW0]; simp
  have z1 : W1.heap.size = w.heap.size + 2 := by rw [hW1]; simp [z0]
  have hT1 : W1.there W0.heap.size 0 7 := by rw [hW1]; exact zeroT_there W0 _
  have x2 := x0.trans (x1.mono x0.size)
  have hA1 : McAt w.heap.size M A W1 := by
    have h : McAt w.heap.size M A W0 := by rw [hW0]; exact McAt.boxed M A w _
    exact h.below x1
  have HE : Hid (Calls Try.prog 54 #[.agg (A.cells M)] W1 (BPostB (SndM M) W1)) := refSoundM_any M A _ hs (hI.below x2)
  obtain ⟨d0, d1, d2, d3⟩ := hA1
  have HA1 : Hid (McAt w.heap.size M A W1) := ⟨d0, d1, d2, d3⟩
  rw [z0] at hT1
  rw [hW0] at hW1
  rw [hW1] at d0 d1 d2 d3
  have HX : Hid (Below w.heap.size w W1) := x2
  have Hz1 : Hid (W1.heap.size = w.heap.size + 2) := z1
  have HI : Hid (McIn M A w) := hI
  have Hsz : Hid (McSz M) := hs
  unfold McA.cells at hW1 HE d0 d1 d2 d3 ⊢
  clear x0 x1 z0 hW0 hI hs x2 z1
  go_enter Try.func24, Try.ntmps24
  go_wp2_with fail
  rw [← hW1]
  clear hW1 d0 d1 d2 d3
  refine HE.out.mono ?_
  rintro e w2 ⟨p, rfl, hp, hB2⟩
  have Hp : Hid (p = true ↔ SndM M) := hp
  have hT2 := there_below hT1 (by omega) hB2
  have HBw : Hid (Below w.heap.size w w2) := HX.out.trans (hB2.mono HX.out.size)
  have m2 := HA1.out.below hB2
  have Hlt : Hid (w.heap.size + 2 ≤ w2.heap.size) := by
    have := Hz1.out
    have := hB2.size
    show w.heap.size + 2 ≤ w2.heap.size
    omega
  clear hp hT1 hB2 HE HA1 Hz1 HX
  cases p
  · obtain ⟨W9, hW9, hl9, hp9⟩ := ref_out (M := M) (Nat.le_succ _) hT2 HBw.out (fun h => by have := Hp.out.2 h; cases this)
    have HP9 : Hid (RefPost M w (.returned (.tuple #[.agg zeroT, .int .i64 10])) W9) := hp9
    have HW9 : Hid (W9 = w2.setCells (w.heap.size + 1) 0 zeroT.toList) := hW9
    have HL9 : Hid ((loadVar 26 ⟨w.heap.size + 1, 0, none⟩).run Try.prog W9 = .ok (.agg zeroT) W9) := hl9
    clear hp9 hW9 hl9
    go_wp2_with (first | (refine wpList_store_mid rfl 26 _ _ rfl (w.heap.size + 1) 0 zeroT rfl rfl hT2 info_tables (by simp [zeroT, Value.oneCell']) ?_; rw [← HW9.out]))
    refine bodyPost_ret (v := .tuple #[.agg zeroT, .int .i64 10]) (eResults_load2 Try.results24 rfl HL9.out rfl) rfl HP9.out
  have HSn : Hid (SndM M) := Hp.out.1 rfl
  clear Hp
  have HM2 : Hid (McAt w.heap.size M A w2) := m2
  clear m2
  go_wp2_with fail
  rename_i K hK
  have REST : ∀ (tb g1 g2 base : Nat) (W : World), PR w M A w.heap.size (w.heap.size + 1) tb g1 g2 base (fun _ => []) (fun _ => .slice none 0 0) W → K ⟨#[.agg #[.int .i64 M.rules, .slice A.a1 M.ncl A.c1, .slice A.a2 M.nlb A.c2, .slice A.a3 M.nnx A.c3], .pointer (some ⟨w.heap.size, 0, none⟩), .pointer (some ⟨w.heap.size + 1, 0, none⟩), .int .i64 0, .bool true, .pointer (some ⟨tb, 0, none⟩), undef, undef, undef, undef, undef, undef, undef, undef, undef, .agg #[.int .i64 M.rules, .slice A.a1 M.ncl A.c1, .slice A.a2 M.nlb A.c2, .slice A.a3 M.nnx A.c3], .bool true, .bool true, .bool false, undef, .pointer (some ⟨w.heap.size, 0, none⟩), .int .i64 M.rules, .pointer (some ⟨w.heap.size, 1, none⟩), .slice A.a1 M.ncl A.c1, .slice (some ⟨g1, 0, none⟩) M.ncl M.ncl, .pointer (some ⟨w.heap.size, 2, none⟩), .slice A.a2 M.nlb A.c2, .slice (some ⟨g2, 0, none⟩) M.nlb M.nlb, .agg #[.int .i64 M.rules, .slice (some ⟨g1, 0, none⟩) M.ncl M.ncl, .slice (some ⟨g2, 0, none⟩) M.nlb M.nlb, .slice none 0 0, .slice none 0 0, .slice none 0 0, .slice none 0 0], undef, undef, undef, undef, undef, undef, undef, undef, undef, undef, undef, undef, undef, undef, undef, undef, undef, undef, undef, undef, undef, undef, undef, undef, undef, undef, undef, undef, undef, undef, undef, undef, undef, undef, undef, undef, undef, undef, undef, undef, undef, undef, undef, undef, undef, undef, undef, undef, undef, undef, undef, undef, undef, undef, undef, undef, undef, undef, undef, undef, undef, undef, undef, undef, undef, undef, undef, undef, undef, undef, undef, undef, undef, undef, undef, undef, undef, undef, undef, undef, undef, undef, undef, undef, undef, undef, undef, undef, undef, undef, undef, undef, undef, undef, undef, undef, undef, undef, undef, undef], []⟩ W := by
    intro tb g1 g2 base W S0
    refine hK _ _ ?_
    rw [← L4_nil] at S0
    have hlb := HSn.out.hd.2.1
    have hk := HSn.out.k1
    have hnn : M.nnx ≤ 24576 := by rw [HSn.out.e]; exact Nat.mul_le_mul hlb.2 hk.2
    have hI0 : McIn M A W := HI.out.below S0.bel
    have HCl : Hid (Calls Try.prog 56 #[.slice A.a1 M.ncl A.c1] W fun e w' => e = .returned (.int .i64 M.k) ∧ w' = W) := refClasses_any _ _ _ _ _ (by have := Hsz.out.s1; unfold maxLen; omega) hI0.l1
    have m1 := S0.m.c1
    have HS0 : Hid (PR w M A w.heap.size (w.heap.size + 1) tb g1 g2 base (L4 [] [] [] []) (fun _ => .slice none 0 0) W) := S0
    clear S0 hI0 hK
    go_wp2_with fail
    refine HCl.out.mono ?_
    rintro e W ⟨rfl, rfl⟩
    clear m1 HCl
    go_wp2_with fail
    go_loopw [7] (fun x w' => ∃ (s : Nat) (V : Nat → Value), s ≤ M.nlb ∧ x = .int .i64 s ∧ PR w M A w.heap.size (w.heap.size + 1) tb g1 g2 base (L4 (Pk.run M.nx M.k s).bs (Pk.run M.nx M.k s).df (Pk.run M.nx M.k s).ck (Pk.run M.nx M.k s).nt) V w') (fun x _ => M.nlb - (intOf x).toNat)
    case atStart => exact ⟨0, _, by omega, rfl, HS0.out⟩
    case round =>
      clear HS0
      obtain ⟨s, V, hs, rfl, S⟩ := hrel
      have I := Pk.inv M.nx M.k s
      have HSr : Hid (PR w M A w.heap.size (w.heap.size + 1) tb g1 g2 base (L4 (Pk.run M.nx M.k s).bs (Pk.run M.nx M.k s).df (Pk.run M.nx M.k s).ck (Pk.run M.nx M.k s).nt) V wr) := S
      obtain ⟨m0, m1, m2, m3⟩ := S.m
      by_cases hlt : s < M.nlb
      · have hlt' : (s : Int) < (M.nlb : Int) := by omega
        have hckl : (Pk.run M.nx M.k s).ck.length ≤ 24576 := Nat.le_trans I.l2 (Nat.le_trans (Nat.mul_le_mul (show s ≤ 96 by omega) hk.2) (by omega))
        have hdl : (Pk.run M.nx M.k s).df.length ≤ 96 := by rw [I.l4]; omega
        have hbl : (Pk.run M.nx M.k s).bs.length ≤ 96 := by rw [I.l3]; omega
        have Hl1 : Hid ((Pk.run M.nx M.k s).ck.length = (Pk.run M.nx M.k s).nt.length) := I.l1
        have HDf : Hid (∀ (d : Int) (w' : World), (d = -1 ∨ ∃ m : Nat, d = m ∧ m < s) → Below wr.heap.size wr w' → Calls Try.prog 57 #[.agg (A.cells M), .int .i64 M.k, .int .i64 s, .int .i64 d] w' fun e w'' => ∃ v, e = .returned v ∧ OwnL w'.heap.size v (natI (Pk.dif M.nx M.k s d M.k)) w'' ∧ Below w'.heap.size w' w'') := fun d w' hd h' => refDiffer_any M A s d w' HSn.out ((HI.out.below HSr.out.bel).below h') hlt (by
          rcases hd with h | ⟨m, h1, h2⟩
          · exact Or.inl h
          · exact Or.inr ⟨m, h1, by omega⟩)
        unfold McA.cells at HDf
        clear I S
        go_wp2_with fail
        clear m0 m1 m2 m3
        refine (HDf.out (-1) _ (Or.inl rfl) (Below.refl _ _)).mono ?_
        rintro e w3 ⟨v3, rfl, hO3, hB3⟩
        have hO3' : OwnL wr.heap.size v3 (natI (Pk.near M.nx M.k s 0).2) w3 := hO3
        clear hO3
        go_wp2_with fail
        obtain ⟨Ws, hWs⟩ : ∃ Ws, Ws = wr := ⟨_, rfl⟩
        subst hWs
        go_loopw [8, 9, 10] (fun x v y w' => ∃ d : Nat, d ≤ s ∧ y = .int .i64 d ∧ x = .int .i64 (Pk.near M.nx M.k s d).1 ∧ OwnL Ws.heap.size v (natI (Pk.near M.nx M.k s d).2) w' ∧ Below Ws.heap.size Ws w') (fun _ _ y _ => s - (intOf y).toNat)
        case atStart => exact ⟨0, by omega, rfl, rfl, hO3', hB3⟩
        case round =>
          clear hO3' hB3
          obtain ⟨d, hd, rfl, rfl, hO, hB⟩ := hrel
          obtain ⟨a7, c7, hv7, _⟩ := hO.il
          rw [natI_len] at hv7
          subst hv7
          by_cases hds : d < s
          · have hds' : (d : Int) < (s : Int) := by omega
            obtain ⟨m0, m1, m2, m3⟩ := (HSr.out.below hB).m
            go_wp2_with fail
            clear m0 m1 m2 m3
            refine (HDf.out d _ (Or.inr ⟨d, rfl, hds⟩) hB).mono ?_
            rintro e w4 ⟨v2, rfl, hO2, hB2⟩
            have hO3 := hO.below hB2
            have hB3 := hB.trans (hB2.mono hB.size)
            have hO4 := hO2.mono hB.size
            obtain ⟨a9, c9, hv9, _⟩ := hO4.il
            rw [natI_len] at hv9
            subst hv9
            have b1 := Pk.dif_len M.nx M.k s d M.k
            have b2 : (Pk.near M.nx M.k s d).2.length ≤ M.k := by rw [Pk.near_own]; exact Pk.dif_len _ _ _ _ _
            clear hO hB hO2 hB2
            by_cases hl : (Pk.dif M.nx M.k s d M.k).length < (Pk.near M.nx M.k s d).2.length
            · have E1 : Hid (Pk.near M.nx M.k s (d + 1) = ((d : Int), Pk.dif M.nx M.k s d M.k)) := Pk.near_lt hl
              have hl' : ((Pk.dif M.nx M.k s d M.k).length : Int) < ((Pk.near M.nx M.k s d).2.length : Int) := by omega
              clear hl
              go_wp2_with fail
              go_roundw
              case rel => exact ⟨d + 1, by omega, by go_num, by rw [E1.out], by rw [E1.out]; exact hO4, hB3⟩
              case measure => simp [intOf]; omega
            · have E1 : Hid (Pk.near M.nx M.k s (d + 1) = Pk.near M.nx M.k s d) := Pk.near_ge hl
              have hl' : ¬ ((Pk.dif M.nx M.k s d M.k).length : Int) < ((Pk.near M.nx M.k s d).2.length : Int) := by omega
              clear hl
              go_wp2_with fail
              go_roundw
              case rel => exact ⟨d + 1, by omega, by go_num, by rw [E1.out], by rw [E1.out]; exact hO3, hB3⟩
              case measure => simp [intOf]; omega
          · have hds' : ¬ (d : Int) < (s : Int) := by omega
            have hde : d = s := by omega
            subst hde
            clear hds hds' hd HDf
            have S4 := HSr.out.below hB
            have O4 : Oth Ws.heap.size (.slice a7 (Pk.near M.nx M.k d d).2.length c7) (natI (Pk.near M.nx M.k d d).2) V wr := ⟨hO, fun k k1 k2 q h1 h2 => by have := (hO.blk q h1).1; have := ((HSr.out.o k k1 k2).blk q h2).2; omega⟩
            have hbW : base ≤ Ws.heap.size := HSr.out.bw
            have hol : (Pk.near M.nx M.k d d).2.length ≤ 256 := by
              rw [Pk.near_own]; exact Nat.le_trans (Pk.dif_len _ _ _ _ _) hk.2
            have Hom : Hid (∀ c ∈ (Pk.near M.nx M.k d d).2, c < M.k) := fun c hc => Pk.own_lt hc
            have Hr1 : Hid (Pk.run M.nx M.k (d + 1) = Pk.step M.nx M.k (Pk.run M.nx M.k d) d) := rfl
            unfold Pk.step Pk.own Pk.df at Hr1
            clear HSr hO hB
            generalize Pk.run M.nx M.k d = R at *
            generalize Pk.near M.nx M.k d d = nr at *
            obtain ⟨df1, own⟩ := nr
            simp only at O4 hol Hom Hr1 ⊢
            obtain ⟨Wd, hWd⟩ : ∃ Wd, Wd = wr := ⟨_, rfl⟩
            subst hWd
            have hdd : ¬ (d : Int) < (d : Int) := by omega
            have o5 : OwnL base (V 5) R.ck Wd := S4.o 5 (by omega) (by omega)
            obtain ⟨a5, c5, h5, _⟩ := o5.il
            have HFr : Hid (∀ b : Nat, b ≤ 100000 → Calls Try.prog 58 #[.slice a5 R.ck.length c5, .int .i64 b, .slice a7 own.length c7] Wd fun e w' => e = .returned (.bool (Pk.fr R.ck b own)) ∧ w' = Wd) := fun b hb => by
              have h := refFree_any base Ws.heap.size b (V 5) (.slice a7 own.length c7) R.ck own Wd o5 O4.o hb (by omega) hol (fun c hc => by have := Hom.out c hc; omega)
              rw [h5] at h
              exact h
            have q5 := (S4.t 5 _ rfl).1
            rw [h5] at q5
            have HS4 : Hid (PR w M A w.heap.size (w.heap.size + 1) tb g1 g2 base (L4 R.bs R.df R.ck R.nt) V Wd) := S4
            have HO4 : Hid (Oth Ws.heap.size (.slice a7 own.length c7) (natI own) V Wd) := O4
            clear S4 O4 o5 h5
            go_wp2_with fail
            go_loopw [12] (fun x w' => ∃ b : Nat, x = .int .i64 b ∧ b ≤ R.ck.length ∧ Hid (∀ i, i < b → Pk.fr R.ck i own = false) ∧ w' = Wd) (fun x _ => R.ck.length + 1 - (intOf x).toNat)
            case atStart => exact ⟨0, rfl, by omega, fun i hi => by omega, rfl⟩
            case round =>
              obtain ⟨b, rfl, hb, HK, rfl⟩ := hrel
              go_wp2_with fail
              refine (HFr.out b (by omega)).mono ?_
              rintro e w5 ⟨rfl, rfl⟩
              by_cases hf : Pk.fr R.ck b own = true
              case neg =>
                have hf' : Pk.fr R.ck b own = false := by simpa using hf
                have hbl2 : b < R.ck.length := by
                  rcases Nat.lt_or_ge b R.ck.length with h | h
                  · exact h
                  · have e : b = R.ck.length := by omega
                    rw [e, Pk.fr_len] at hf'; cases hf'
                have HK2 : Hid (∀ i, i < b + 1 → Pk.fr R.ck i own = false) := fun i hi => by
                  by_cases e : i = b
                  · subst e; exact hf'
                  · exact HK.out i (by omega)
                rw [hf']
                clear hf hf' HK
                go_wp2_with fail
                go_roundw
                case rel => exact ⟨b + 1, by go_num, by omega, HK2, by first | rfl | trivial⟩
                case measure => simp [intOf]; omega
              have HB : Hid (Pk.bas R.ck own = b) := Pk.bas_eq hf HK.out
              rw [hf]
              have Hr2 : Hid (Pk.run M.nx M.k (d + 1) = ⟨(Pk.lay M.nx M.k d b own (R.ck, R.nt)).1, (Pk.lay M.nx M.k d b own (R.ck, R.nt)).2, R.bs ++ [(b : Int)], R.df ++ [df1]⟩) := by show _ = _; rw [Hr1.out, HB.out]
              have Hlay : Hid (∀ i, (Pk.lay M.nx M.k d b (own.take i) (R.ck, R.nt)).1.length = (Pk.lay M.nx M.k d b (own.take i) (R.ck, R.nt)).2.length ∧ (Pk.lay M.nx M.k d b (own.take i) (R.ck, R.nt)).1.length ≤ 24576 + 256) := fun i => by
                have h := Pk.lay_len M.nx M.k d b (own.take i) (R.ck, R.nt) Hl1.out (fun c hc => Hom.out c (List.mem_of_mem_take hc))
                refine ⟨h.1, ?_⟩
                have := h.2.2
                simp only at this
                omega
              clear hf HK HB Hr1 HFr q5
              go_wp2_with fail
              go_loopw [13] (fun x w' => ∃ (i : Nat) (V' : Nat → Value), i ≤ own.length ∧ x = .int .i64 i ∧ PR w M A w.heap.size (w.heap.size + 1) tb g1 g2 base (L4 R.bs R.df (Pk.lay M.nx M.k d b (own.take i) (R.ck, R.nt)).1 (Pk.lay M.nx M.k d b (own.take i) (R.ck, R.nt)).2) V' w' ∧ Oth Ws.heap.size (.slice a7 own.length c7) (natI own) V' w') (fun x _ => own.length - (intOf x).toNat)
              case atStart => exact ⟨0, V, by omega, rfl, by rw [List.take_zero]; exact HS4.out, HO4.out⟩
              case round =>
                clear HS4 HO4
                obtain ⟨i, V', hi, rfl, S, O⟩ := hrel
                by_cases hil : i < own.length
                · have hil' : (i : Int) < (own.length : Int) := by omega
                  obtain ⟨c, hc⟩ : ∃ c, own[i]? = some c := ⟨own[i], List.getElem?_eq_getElem hil⟩
                  have hck := Hom.out c (List.mem_of_getElem? hc)
                  have HT : Hid (Pk.lay M.nx M.k d b (own.take (i + 1)) (R.ck, R.nt) = (Pk.put (Pk.lay M.nx M.k d b (own.take i) (R.ck, R.nt)).1 (b + c) d, Pk.put (Pk.lay M.nx M.k d b (own.take i) (R.ck, R.nt)).2 (b + c) (Pk.ld M.nx M.k d c))) := lay_take M.nx M.k d b own (R.ck, R.nt) i c hc
                  obtain ⟨ll1, ll2⟩ := Hlay.out i
                  generalize (Pk.lay M.nx M.k d b (own.take i) (R.ck, R.nt)).1 = lck at *
                  generalize (Pk.lay M.nx M.k d b (own.take i) (R.ck, R.nt)).2 = lnt at *
                  obtain ⟨ado, co, hvo, ilo⟩ := O.o.il
                  obtain ⟨gv, ov, hgv, cv⟩ := ilo i (by rw [natI_len]; exact hil)
                  have hv4 := (Value.slice.inj hvo).1
                  rw [hgv] at hv4
                  subst hv4
                  simp only [natI_at hc] at cv
                  have Hcell : Hid (∀ V2 w', Oth Ws.heap.size (.slice (some ⟨gv, ov, none⟩) own.length c7) (natI own) V2 w' → w'.cell? ⟨gv, ov + i, none⟩ = some (.int .i64 (c : Int))) := fun V2 w' h' => by
                    obtain ⟨ad2, co2, hv2, il2⟩ := h'.o.il
                    obtain ⟨gv2, ov2, hgv2, cv2⟩ := il2 i (by rw [natI_len]; exact hil)
                    have hv5 := (Value.slice.inj hv2).1
                    rw [hgv2] at hv5
                    cases hv5
                    simp only [natI_at hc] at cv2
                    exact cv2
                  obtain ⟨k, ik⟩ : ∃ k : Nat, (b : Int) + (c : Int) = (k : Int) := ⟨b + c, by omega⟩
                  have Hkk : Hid (k = b + c) := by show _ = _; omega
                  have hkb : k ≤ 30000 := by omega
                  have Hll : Hid (lck.length = lnt.length) := ll1
                  have HSo : Hid (PR w M A w.heap.size (w.heap.size + 1) tb g1 g2 base (L4 R.bs R.df lck lnt) V' wr) := S
                  have HOo : Hid (Oth Ws.heap.size (.slice (some ⟨gv, ov, none⟩) own.length c7) (natI own) V' wr) := O
                  have htb : tb < Ws.heap.size := by have := S.lt.2.2.1; omega
                  clear hvo ilo hgv hc S O ll1
                  go_wp2_with fail
                  clear cv
                  go_loopw [] (fun w' => ∃ (j : Nat) (V2 : Nat → Value), j ≤ k + 1 - lck.length ∧ PR w M A w.heap.size (w.heap.size + 1) tb g1 g2 base (L4 R.bs R.df (lck ++ List.replicate j (-1)) (lnt ++ List.replicate j (-1))) V2 w' ∧ Oth Ws.heap.size (.slice (some ⟨gv, ov, none⟩) own.length c7) (natI own) V2 w') (fun w' => k + 1 - lenAt w' ⟨tb, 5, none⟩)
                  case atStart => exact ⟨0, V', by omega, by simpa using HSo.out, HOo.out⟩
                  case round =>
                    clear HSo HOo
                    obtain ⟨j, V2, hj, S, O⟩ := hrel
                    obtain ⟨LC, hLC⟩ : ∃ L, L = lck ++ List.replicate j (-1) := ⟨_, rfl⟩
                    obtain ⟨LN, hLN⟩ : ∃ L, L = lnt ++ List.replicate j (-1) := ⟨_, rfl⟩
                    have hLl : LC.length = lck.length + j := by rw [hLC]; simp
                    have hMl : LN.length = lck.length + j := by rw [hLN, Hll.out]; simp
                    rw [← hLC, ← hLN] at S
                    have HLC : Hid (LC = lck ++ List.replicate j (-1)) := hLC
                    have HLN : Hid (LN = lnt ++ List.replicate j (-1)) := hLN
                    have hLb : LC.length ≤ 60000 := by omega
                    have hMb : LN.length ≤ 60000 := by omega
                    have HLk : Hid (LC.length ≤ k → j + 1 ≤ k + 1 - lck.length) := fun h => by omega
                    have HLj : Hid (¬ LC.length ≤ k → j = k + 1 - lck.length) := fun h => by omega
                    have HkM : Hid (¬ LC.length ≤ k → k < LN.length) := fun h => by omega
                    clear hLC hLN hLl hMl
                    have o5 : OwnL base (V2 5) LC wr := S.o 5 (by omega) (by omega)
                    have o6 : OwnL base (V2 6) LN wr := S.o 6 (by omega) (by omega)
                    obtain ⟨a5, c5, h5, _⟩ := o5.il
                    obtain ⟨a6, c6, h6, _⟩ := o6.il
                    have q5 := (S.t 5 _ rfl).1
                    have q6 := (S.t 6 _ rfl).1
                    rw [h5] at q5
                    rw [h6] at q6
                    have Hmes : Hid (lenAt wr ⟨tb, 5, none⟩ = LC.length) := lenAt_of q5
                    by_cases hle : LC.length ≤ k
                    · have hle' : (LC.length : Int) ≤ (k : Int) := by omega
                      obtain ⟨hO1, hnw, hbs, hk1⟩ := S.ready (-1) 5 (by omega) (by omega)
                      rw [h5] at hO1 hk1
                      have hO1' : OwnL base (.slice a5 LC.length c5) LC (wr.alloc (.cells #[.int .i64 (-1)] 3)) := hO1
                      have HK1 : Hid (∀ w5, (wr.alloc (.cells #[.int .i64 (-1)] 3)).grownBy w5 (Value.slice a5 LC.length c5).ownBlock → w5.cell? ⟨tb, 5, none⟩ = some (.slice a5 LC.length c5) ∧ w5.frozen? ⟨tb, 5, none⟩ = false) := hk1
                      have HX : Hid (∀ g cap w5, OwnL base (.slice (some ⟨g, 0, none⟩) (LC.length + 1) cap) (LC ++ [-1]) w5 → (wr.alloc (.cells #[.int .i64 (-1)] 3)).grownBy w5 (Value.slice a5 LC.length c5).ownBlock → ((Value.slice a5 LC.length c5).ownBlock = some g ∨ g = (wr.alloc (.cells #[.int .i64 (-1)] 3)).heap.size) →
                          PR w M A w.heap.size (w.heap.size + 1) tb g1 g2 base (L4 R.bs R.df (LC ++ [-1]) LN) (upd V2 5 (.slice (some ⟨g, 0, none⟩) (LC.length + 1) cap)) (w5.setCell ⟨tb, 5, none⟩ (.slice (some ⟨g, 0, none⟩) (LC.length + 1) cap)) ∧ Oth Ws.heap.size (.slice (some ⟨gv, ov, none⟩) own.length c7) (natI own) (upd V2 5 (.slice (some ⟨g, 0, none⟩) (LC.length + 1) cap)) (w5.setCell ⟨tb, 5, none⟩ (.slice (some ⟨g, 0, none⟩) (LC.length + 1) cap))) := fun g cap w5 e1 e2 e3 => by
                        rw [← h5] at e2 e3
                        have h := S.push 5 (by omega) (by omega) rfl e1 e2 e3
                        rw [L4_5] at h
                        exact ⟨h, O.push (by omega) (by omega) rfl e2 e3 htb⟩
                      have h6' : ∀ u, upd V2 5 u 6 = .slice a6 LN.length c6 := fun u => by rw [upd_ne _ _ (by omega)]; exact h6
                      have HN2 : Hid (∀ (w5 : World) (ad : Addr) (u u2 : Value), PR w M A w.heap.size (w.heap.size + 1) tb g1 g2 base (L4 R.bs R.df (LC ++ [-1]) LN) (upd V2 5 u2) (w5.setCell ad u) →
                          (w5.setCell ad u).cell? ⟨tb, 6, none⟩ = some (.slice a6 LN.length c6) ∧ OwnL base (.slice a6 LN.length c6) LN ((w5.setCell ad u).alloc (.cells #[.int .i64 (-1)] 3)) ∧ ((w5.setCell ad u).alloc (.cells #[.int .i64 (-1)] 3)).cell? ⟨w5.heap.size, 0, none⟩ = some (.int .i64 (-1)) ∧ base ≤ ((w5.setCell ad u).alloc (.cells #[.int .i64 (-1)] 3)).heap.size ∧
                          ∀ w7, ((w5.setCell ad u).alloc (.cells #[.int .i64 (-1)] 3)).grownBy w7 (Value.slice a6 LN.length c6).ownBlock → w7.cell? ⟨tb, 6, none⟩ = some (.slice a6 LN.length c6) ∧ w7.frozen? ⟨tb, 6, none⟩ = false) := fun w5 ad u u2 h => by
                        have hsz : (w5.setCell ad u).heap.size = w5.heap.size := by simp [World.setCell]
                        have q := (h.t 6 _ rfl).1
                        rw [h6'] at q
                        obtain ⟨r1, r2, r3, r4⟩ := h.ready (-1) 6 (by omega) (by omega)
                        rw [h6'] at r1 r4
                        rw [hsz] at r2
                        exact ⟨q, r1, r2, r3, r4⟩
                      have HO6 : Hid (∀ u, upd V2 5 u 6 = .slice a6 LN.length c6) := h6'
                      clear S O hk1 o5 o6 hO1 h5 h6 h6' q6
                      go_wp2_with (first
                        | (at_builtin; refine wpList_append_int (by rfl) _ _ (by rfl) base (.slice a5 LC.length c5) LC (by rfl) hO1' (by omega) wr.heap.size (-1) (by rfl) hnw hbs _ rfl ?_; intro g cap w5 hO5 hgrow hgb hl5; obtain ⟨e5, e5f⟩ := HK1.out w5 hgrow; obtain ⟨S5, O5⟩ := HX.out g cap w5 hO5 hgrow hgb; obtain ⟨e6, hO6, hn6, hb6, hk6⟩ := HN2.out w5 _ _ _ S5; have HK6 : Hid (∀ w7, ((w5.setCell ⟨tb, 5, none⟩ (.slice (some ⟨g, 0, none⟩) (LC.length + 1) cap)).alloc (.cells #[.int .i64 (-1)] 3)).grownBy w7 (Value.slice a6 LN.length c6).ownBlock → w7.cell? ⟨tb, 6, none⟩ = some (.slice a6 LN.length c6) ∧ w7.frozen? ⟨tb, 6, none⟩ = false) := hk6; clear hk6 hO1')
                        | (at_builtin; refine wpList_append_int (by rfl) _ _ (by rfl) base (.slice a6 LN.length c6) LN (by rfl) hO6 (by omega) w5.heap.size (-1) (by rfl) hn6 hb6 _ rfl ?_; intro g7 cap7 w7 hO7 hgrow7 hgb7 hl7; obtain ⟨e7, e7f⟩ := HK6.out w7 hgrow7))
                      have S7 : PR w M A w.heap.size (w.heap.size + 1) tb g1 g2 base (L4 R.bs R.df (LC ++ [-1]) (LN ++ [-1])) (upd (upd V2 5 (.slice (some ⟨g, 0, none⟩) (LC.length + 1) cap)) 6 (.slice (some ⟨g7, 0, none⟩) (LN.length + 1) cap7)) (w7.setCell ⟨tb, 6, none⟩ (.slice (some ⟨g7, 0, none⟩) (LN.length + 1) cap7)) := by
                        rw [← HO6.out (.slice (some ⟨g, 0, none⟩) (LC.length + 1) cap)] at hgrow7 hgb7
                        have h := S5.push 6 (by omega) (by omega) rfl hO7 hgrow7 hgb7
                        rw [L4_6] at h
                        exact h
                      have O7 : Oth Ws.heap.size (.slice (some ⟨gv, ov, none⟩) own.length c7) (natI own) (upd (upd V2 5 (.slice (some ⟨g, 0, none⟩) (LC.length + 1) cap)) 6 (.slice (some ⟨g7, 0, none⟩) (LN.length + 1) cap7)) (w7.setCell ⟨tb, 6, none⟩ (.slice (some ⟨g7, 0, none⟩) (LN.length + 1) cap7)) := by
                        rw [← HO6.out (.slice (some ⟨g, 0, none⟩) (LC.length + 1) cap)] at hgrow7 hgb7
                        exact O5.push (by omega) (by omega) rfl hgrow7 hgb7 htb
                      have hm8 : lenAt (w7.setCell ⟨tb, 6, none⟩ (.slice (some ⟨g7, 0, none⟩) (LN.length + 1) cap7)) ⟨tb, 5, none⟩ = LC.length + 1 := by
                        have q := (S7.t 5 _ rfl).1
                        rw [upd_ne _ _ (by omega), upd_at] at q
                        exact lenAt_of q
                      rw [HLC.out, HLN.out, rep_push, rep_push] at S7
                      rw [← HLC.out, ← HLN.out] at S7
                      go_roundw
                      case rel => exact ⟨j + 1, _, HLk.out hle, S7, O7⟩
                      case measure =>
                        rw [hm8, Hmes.out]
                        omega
                    · have hle' : ¬ (LC.length : Int) ≤ (k : Int) := by omega
                      have hjk : j = k + 1 - lck.length := HLj.out hle
                      have hkm0 : k < LN.length := HkM.out hle
                      have HP1 : Hid (LC.set k (d : Int) = Pk.put lck k d) := by show _ = _; rw [HLC.out, hjk]; rfl
                      have HP2 : Hid (∀ x, LN.set k x = Pk.put lnt k x) := fun x => by rw [HLN.out, hjk, Hll.out]; rfl
                      obtain ⟨g, cg, hg⟩ := o5.some_ (by omega)
                      obtain ⟨g', cg', hg'⟩ := o6.some_ (by omega)
                      rw [h5] at hg
                      rw [h6] at hg'
                      cases hg
                      cases hg'
                      rw [h5] at o5
                      obtain ⟨k1, k1f⟩ := o5.at_ k (by omega)
                      have S1 := S.put 5 (by omega) (by omega) h5 k (d : Int)
                      rw [L4_5] at S1
                      have O1 := O.put (q := k) (u := .int .i64 (d : Int)) (k := 5) (by omega) (by omega) h5
                      obtain ⟨W6, hW6⟩ : ∃ W6, W6 = (wr.setCell ⟨g, k, none⟩ (.int .i64 (d : Int))).drew := ⟨_, rfl⟩
                      have S6 : PR w M A w.heap.size (w.heap.size + 1) tb g1 g2 base (L4 R.bs R.df (LC.set k (d : Int)) LN) V2 W6 := by rw [hW6]; exact S1.below (Below.refl _ _).drew
                      have O6 : Oth Ws.heap.size (.slice (some ⟨gv, ov, none⟩) own.length c7) (natI own) V2 W6 := by rw [hW6]; exact O1.below (Below.refl _ _).drew
                      have r6 := (S6.t 6 _ rfl).1
                      rw [h6] at r6
                      have n3 := S6.m.c3
                      have oc := Hcell.out V2 W6 O6
                      have o62 : OwnL base (.slice (some ⟨g', 0, none⟩) LN.length c6) LN W6 := by
                        have := S6.o 6 (by omega) (by omega)
                        rw [h6] at this
                        exact this
                      obtain ⟨k2, k2f⟩ := o62.at_ k hkm0
                      obtain ⟨ps, hps⟩ : ∃ ps : Nat, ps = d * M.k := ⟨_, rfl⟩
                      have ips : (d : Int) * (M.k : Int) = (ps : Int) := by rw [hps]; simp
                      have hpsb : ps ≤ 24576 := by rw [hps]; exact Nat.mul_le_mul (show d ≤ 96 by omega) hk.2
                      obtain ⟨q, hq⟩ : ∃ q : Nat, q = ps + c := ⟨_, rfl⟩
                      have iq : (ps : Int) + (c : Int) = (q : Int) := by omega
                      have hqn : q < M.nnx := by
                        have h2 : (d + 1) * M.k ≤ M.nlb * M.k := Nat.mul_le_mul_right _ hlt
                        rw [HSn.out.e]
                        rw [Nat.succ_mul] at h2
                        omega
                      have hqn' : (q : Int) < (M.nnx : Int) := by omega
                      obtain ⟨gn, on_, hgn, cn⟩ := (HI.out.below S6.bel).l3 q hqn
                      rw [hgn] at n3
                      have hld : Pk.ld M.nx M.k (d : Int) c = M.nx q := by rw [Pk.ld_nat, hq, hps]
                      have S8 : PR w M A w.heap.size (w.heap.size + 1) tb g1 g2 base (L4 R.bs R.df (LC.set k (d : Int)) (LN.set k (M.nx q))) V2 (W6.setCell ⟨g', k, none⟩ (.int .i64 (M.nx q))) := by
                        have h := S6.put 6 (by omega) (by omega) h6 k (M.nx q)
                        rw [L4_6] at h
                        exact h
                      rw [HP1.out, HP2.out] at S8
                      have O8 := O6.put (q := k) (u := .int .i64 (M.nx q)) (k := 6) (by omega) (by omega) h6
                      have HS8 : Hid (PR w M A w.heap.size (w.heap.size + 1) tb g1 g2 base (L4 R.bs R.df (Pk.put lck (b + c) d) (Pk.put lnt (b + c) (Pk.ld M.nx M.k d c))) V2 (W6.setCell ⟨g', k, none⟩ (.int .i64 (M.nx q)))) := by
                        rw [← Hkk.out, hld]; exact S8
                      have HO8 : Hid (Oth Ws.heap.size (.slice (some ⟨gv, ov, none⟩) own.length c7) (natI own) V2 (W6.setCell ⟨g', k, none⟩ (.int .i64 (M.nx q)))) := O8
                      have Hld : Hid (Pk.ld M.nx M.k (d : Int) c = M.nx q) := hld
                      have hkl : (k : Int) < (LC.length : Int) := by omega
                      have hkm : (k : Int) < (LN.length : Int) := by omega
                      have hqb : q ≤ 30000 := by omega
                      clear S O S1 O1 S6 O6 S8 O8 HP1 HP2 Hmes hjk hld hq hps o5 o6 o62 h5 h6 hgn
                      go_wp2_with fail
                      refine wp_region_still_tail 16 (by kernel_rfl) (by kernel_rfl) ?_
                      simp only [List.take_succ_cons, List.take_zero, List.drop_succ_cons, List.drop_zero]
                      change wpStill _ _ (wr.setCell ⟨g, k, none⟩ (.int .i64 (d : Int))).drew (fun a' => wpList _ _ _ _ a' (wr.setCell ⟨g, k, none⟩ (.int .i64 (d : Int))).drew) _ _
                      rw [← hW6]
                      clear hW6
                      repeat still_step
                      have hw1 : IntKind.i64.wrap (ps : Int) = (ps : Int) := by simp [IntKind.wrap, IntKind.bits, IntKind.signed]; omega
                      have hw2 : IntKind.i64.wrap (q : Int) = (q : Int) := by simp [IntKind.wrap, IntKind.bits, IntKind.signed]; omega
                      (try simp only [hw1, iq, hw2])
                      repeat still_step
                      (try simp only [hw1, iq, hw2])
                      repeat still_step
                      refine wpStill_nil ?_
                      clear hw1 hw2
                      go_wp2_with fail
                      go_roundw
                      case rel =>
                        refine ⟨i + 1, V2, by omega, by go_num, ?_, HO8.out⟩
                        rw [HT.out]
                        exact HS8.out
                      case measure => simp [intOf]; omega
                · have hge2 : ¬ (i : Int) < (own.length : Int) := by omega
                  have hio : own.take i = own := List.take_of_length_le (by omega)
                  rw [hio] at S
                  clear O hio
                  have o3 : OwnL base (V' 3) R.bs wr := S.o 3 (by omega) (by omega)
                  have o4 : OwnL base (V' 4) R.df wr := S.o 4 (by omega) (by omega)
                  obtain ⟨a3, c3, h3, _⟩ := o3.il
                  obtain ⟨a4, c4, h4, _⟩ := o4.il
                  have q3 := (S.t 3 _ rfl).1
                  rw [h3] at q3
                  obtain ⟨hO1, hnw, hbs, hk1⟩ := S.ready (b : Int) 3 (by omega) (by omega)
                  rw [h3] at hO1 hk1
                  have hO1' : OwnL base (.slice a3 R.bs.length c3) R.bs (wr.alloc (.cells #[.int .i64 (b : Int)] 3)) := hO1
                  have HK1 : Hid (∀ w5, (wr.alloc (.cells #[.int .i64 (b : Int)] 3)).grownBy w5 (Value.slice a3 R.bs.length c3).ownBlock → w5.cell? ⟨tb, 3, none⟩ = some (.slice a3 R.bs.length c3) ∧ w5.frozen? ⟨tb, 3, none⟩ = false) := hk1
                  have HX : Hid (∀ g cap w5, OwnL base (.slice (some ⟨g, 0, none⟩) (R.bs.length + 1) cap) (R.bs ++ [(b : Int)]) w5 → (wr.alloc (.cells #[.int .i64 (b : Int)] 3)).grownBy w5 (Value.slice a3 R.bs.length c3).ownBlock → ((Value.slice a3 R.bs.length c3).ownBlock = some g ∨ g = (wr.alloc (.cells #[.int .i64 (b : Int)] 3)).heap.size) →
                      PR w M A w.heap.size (w.heap.size + 1) tb g1 g2 base (L4 (R.bs ++ [(b : Int)]) R.df (Pk.lay M.nx M.k d b own (R.ck, R.nt)).1 (Pk.lay M.nx M.k d b own (R.ck, R.nt)).2) (upd V' 3 (.slice (some ⟨g, 0, none⟩) (R.bs.length + 1) cap)) (w5.setCell ⟨tb, 3, none⟩ (.slice (some ⟨g, 0, none⟩) (R.bs.length + 1) cap))) := fun g cap w5 e1 e2 e3 => by
                    rw [← h3] at e2 e3
                    have h := S.push 3 (by omega) (by omega) rfl e1 e2 e3
                    rw [L4_3] at h
                    exact h
                  have h4' : ∀ u, upd V' 3 u 4 = .slice a4 R.df.length c4 := fun u => by rw [upd_ne _ _ (by omega)]; exact h4
                  have HN2 : Hid (∀ (w5 : World) (ad : Addr) (u u2 : Value), PR w M A w.heap.size (w.heap.size + 1) tb g1 g2 base (L4 (R.bs ++ [(b : Int)]) R.df (Pk.lay M.nx M.k d b own (R.ck, R.nt)).1 (Pk.lay M.nx M.k d b own (R.ck, R.nt)).2) (upd V' 3 u2) (w5.setCell ad u) →
                      (w5.setCell ad u).cell? ⟨tb, 4, none⟩ = some (.slice a4 R.df.length c4) ∧ OwnL base (.slice a4 R.df.length c4) R.df ((w5.setCell ad u).alloc (.cells #[.int .i64 df1] 3)) ∧ ((w5.setCell ad u).alloc (.cells #[.int .i64 df1] 3)).cell? ⟨w5.heap.size, 0, none⟩ = some (.int .i64 df1) ∧ base ≤ ((w5.setCell ad u).alloc (.cells #[.int .i64 df1] 3)).heap.size ∧
                      ∀ w7, ((w5.setCell ad u).alloc (.cells #[.int .i64 df1] 3)).grownBy w7 (Value.slice a4 R.df.length c4).ownBlock → w7.cell? ⟨tb, 4, none⟩ = some (.slice a4 R.df.length c4) ∧ w7.frozen? ⟨tb, 4, none⟩ = false) := fun w5 ad u u2 h => by
                    have hsz : (w5.setCell ad u).heap.size = w5.heap.size := by simp [World.setCell]
                    have q := (h.t 4 _ rfl).1
                    rw [h4'] at q
                    obtain ⟨r1, r2, r3, r4⟩ := h.ready df1 4 (by omega) (by omega)
                    rw [h4'] at r1 r4
                    rw [hsz] at r2
                    exact ⟨q, r1, r2, r3, r4⟩
                  have HO6 : Hid (∀ u, upd V' 3 u 4 = .slice a4 R.df.length c4) := h4'
                  clear S hk1 o3 o4 hO1 h3 h4 h4'
                  go_wp2_with (first
                    | (at_builtin; refine wpList_append_int (by rfl) _ _ (by rfl) base (.slice a3 R.bs.length c3) R.bs (by rfl) hO1' (by omega) wr.heap.size (b : Int) (by rfl) hnw hbs _ rfl ?_; intro g cap w5 hO5 hgrow hgb hl5; obtain ⟨e5, e5f⟩ := HK1.out w5 hgrow; have S5 := HX.out g cap w5 hO5 hgrow hgb; obtain ⟨e6, hO6, hn6, hb6, hk6⟩ := HN2.out w5 _ _ _ S5; have HK6 : Hid (∀ w7, ((w5.setCell ⟨tb, 3, none⟩ (.slice (some ⟨g, 0, none⟩) (R.bs.length + 1) cap)).alloc (.cells #[.int .i64 df1] 3)).grownBy w7 (Value.slice a4 R.df.length c4).ownBlock → w7.cell? ⟨tb, 4, none⟩ = some (.slice a4 R.df.length c4) ∧ w7.frozen? ⟨tb, 4, none⟩ = false) := hk6; clear hk6 hO1')
                    | (at_builtin; refine wpList_append_int (by rfl) _ _ (by rfl) base (.slice a4 R.df.length c4) R.df (by rfl) hO6 (by omega) w5.heap.size df1 (by rfl) hn6 hb6 _ rfl ?_; intro g7 cap7 w7 hO7 hgrow7 hgb7 hl7; obtain ⟨e7, e7f⟩ := HK6.out w7 hgrow7))
                  have S7 : PR w M A w.heap.size (w.heap.size + 1) tb g1 g2 base (L4 (R.bs ++ [(b : Int)]) (R.df ++ [df1]) (Pk.lay M.nx M.k d b own (R.ck, R.nt)).1 (Pk.lay M.nx M.k d b own (R.ck, R.nt)).2) (upd (upd V' 3 (.slice (some ⟨g, 0, none⟩) (R.bs.length + 1) cap)) 4 (.slice (some ⟨g7, 0, none⟩) (R.df.length + 1) cap7)) (w7.setCell ⟨tb, 4, none⟩ (.slice (some ⟨g7, 0, none⟩) (R.df.length + 1) cap7)) := by
                    rw [← HO6.out (.slice (some ⟨g, 0, none⟩) (R.bs.length + 1) cap)] at hgrow7 hgb7
                    have h := S5.push 4 (by omega) (by omega) rfl hO7 hgrow7 hgb7
                    rw [L4_4] at h
                    exact h
                  go_roundw
                  case rel =>
                    refine ⟨d + 1, upd (upd V' 3 (.slice (some ⟨g, 0, none⟩) (R.bs.length + 1) cap)) 4 (.slice (some ⟨g7, 0, none⟩) (R.df.length + 1) cap7), by omega, by go_num, ?_⟩
                    rw [Hr2.out]
                    exact S7
                  case measure => simp [intOf]; omega
      · have hge : ¬ (s : Int) < (M.nlb : Int) := by omega
        have hsn : s = M.nlb := by omega
        subst hsn
        obtain ⟨hrg, hth, hone, W9, hW9, hl9, hp9⟩ := S.last HSn.out rfl rfl rfl rfl
        have HP9 : Hid (RefPost M w (.returned (.tuple #[.agg (prC M g1 g2 V).toArray, .int .i64 0])) W9) := hp9
        have HW9 : Hid (W9 = wr.setCells (w.heap.size + 1) 0 (prC M g1 g2 V)) := hW9
        have HL9 : Hid ((loadVar 26 ⟨w.heap.size + 1, 0, none⟩).run Try.prog W9 = .ok (.agg (prC M g1 g2 V).toArray) W9) := hl9
        clear hp9 hW9 hl9 S I m0 m1 m3
        go_wp2_with (first
          | (refine wpList_load_mid rfl 26 _ rfl tb 0 rfl (prC M g1 g2 V) _ hrg Try.underlying26 rfl info_tables ?_)
          | (refine wpList_store_mid rfl 26 _ _ rfl (w.heap.size + 1) 0 (prC M g1 g2 V).toArray rfl rfl hth info_tables hone ?_; rw [List.toList_toArray, ← HW9.out]))
        refine bodyPost_ret (v := .tuple #[.agg (prC M g1 g2 V).toArray, .int .i64 0]) (eResults_load2 Try.results24 rfl HL9.out rfl) rfl HP9.out
  have HREST : Hid (∀ (tb g1 g2 base : Nat) (W : World), PR w M A w.heap.size (w.heap.size + 1) tb g1 g2 base (fun _ => []) (fun _ => .slice none 0 0) W → K ⟨#[.agg #[.int .i64 M.rules, .slice A.a1 M.ncl A.c1, .slice A.a2 M.nlb A.c2, .slice A.a3 M.nnx A.c3], .pointer (some ⟨w.heap.size, 0, none⟩), .pointer (some ⟨w.heap.size + 1, 0, none⟩), .int .i64 0, .bool true, .pointer (some ⟨tb, 0, none⟩), undef, undef, undef, undef, undef, undef, undef, undef, undef, .agg #[.int .i64 M.rules, .slice A.a1 M.ncl A.c1, .slice A.a2 M.nlb A.c2, .slice A.a3 M.nnx A.c3], .bool true, .bool true, .bool false, undef, .pointer (some ⟨w.heap.size, 0, none⟩), .int .i64 M.rules, .pointer (some ⟨w.heap.size, 1, none⟩), .slice A.a1 M.ncl A.c1, .slice (some ⟨g1, 0, none⟩) M.ncl M.ncl, .pointer (some ⟨w.heap.size, 2, none⟩), .slice A.a2 M.nlb A.c2, .slice (some ⟨g2, 0, none⟩) M.nlb M.nlb, .agg #[.int .i64 M.rules, .slice (some ⟨g1, 0, none⟩) M.ncl M.ncl, .slice (some ⟨g2, 0, none⟩) M.nlb M.nlb, .slice none 0 0, .slice none 0 0, .slice none 0 0, .slice none 0 0], undef, undef, undef, undef, undef, undef, undef, undef, undef, undef, undef, undef, undef, undef, undef, undef, undef, undef, undef, undef, undef, undef, undef, undef, undef, undef, undef, undef, undef, undef, undef, undef, undef, undef, undef, undef, undef, undef, undef, undef, undef, undef, undef, undef, undef, undef, undef, undef, undef, undef, undef, undef, undef, undef, undef, undef, undef, undef, undef, undef, undef, undef, undef, undef, undef, undef, undef, undef, undef, undef, undef, undef, undef, undef, undef, undef, undef, undef, undef, undef, undef, undef, undef, undef, undef, undef, undef, undef, undef, undef, undef, undef, undef, undef, undef, undef, undef, undef, undef, undef], []⟩ W) := REST
  clear REST hK
  have hncl : 0 < M.ncl := by rw [HSn.out.ncl]; omega
  have hnlb : 0 < M.nlb := by have := HSn.out.hd.2.1; omega
  have HC1 : Hid (∀ w', Below w2.heap.size w2 w' → Calls Try.prog 55 #[.slice A.a1 M.ncl A.c1] w' fun e w'' => e = .returned (.slice (some ⟨w'.heap.size, 0, none⟩) M.ncl M.ncl) ∧ NRow w'.heap.size M.cl M.ncl w'' ∧ Below w'.heap.size w' w'') := fun w' h' => refCopied_any _ _ _ _ _ (by have := Hsz.out.s1; omega) ((HI.out.below HBw.out).below h').l1
  have HC2 : Hid (∀ w', Below w2.heap.size w2 w' → Calls Try.prog 55 #[.slice A.a2 M.nlb A.c2] w' fun e w'' => e = .returned (.slice (some ⟨w'.heap.size, 0, none⟩) M.nlb M.nlb) ∧ NRow w'.heap.size M.lb M.nlb w'' ∧ Below w'.heap.size w' w'') := fun w' h' => refCopied_any _ _ _ _ _ (by have := Hsz.out.s2; omega) ((HI.out.below HBw.out).below h').l2
  have HSc : Hid (∀ w', Below w2.heap.size w2 w' → w'.cell? ⟨w.heap.size, 0, none⟩ = some (.int .i64 M.rules) ∧ w'.cell? ⟨w.heap.size, 1, none⟩ = some (.slice A.a1 M.ncl A.c1) ∧ w'.cell? ⟨w.heap.size, 2, none⟩ = some (.slice A.a2 M.nlb A.c2)) := fun w' h' => by
    obtain ⟨q0, q1, q2, _⟩ := HM2.out.below h'
    exact ⟨q0, q1, q2⟩
  have HIn : Hid (∀ (tb g1 g2 : Nat) (W : World), Below w2.heap.size w2 W → NRow g1 M.cl M.ncl W → NRow g2 M.lb M.nlb W → W.there tb 0 7 → w2.heap.size ≤ tb → tb < W.heap.size → w2.heap.size ≤ g1 → w2.heap.size ≤ g2 → g1 ≠ tb → g2 ≠ tb → PR w M A w.heap.size (w.heap.size + 1) tb g1 g2 W.heap.size (fun _ => []) (fun _ => .slice none 0 0) (W.setCells tb 0 (prC M g1 g2 (fun _ => .slice none 0 0)))) := fun tb g1 g2 W hB k1 k2 ht t1 t2 a1 b1 n1 n2 => by
    have hl := Hlt.out
    exact PR.init HM2.out hT2 (by omega) (by omega) (by omega) (Nat.le_succ _) HBw.out hB k1 k2 ht t1 t2 a1 (k1.lt hncl) b1 (k2.lt hnlb) n1 n2
  have hA0 : Below w2.heap.size w2 w2.drew := (Below.refl _ _).drew
  clear hT2
  refine wp_region_held_drew (S := fun w' => w'.cell? ⟨w.heap.size, 0, none⟩ = some (.int .i64 M.rules) ∧ w'.cell? ⟨w.heap.size, 1, none⟩ = some (.slice A.a1 M.ncl A.c1) ∧ w'.cell? ⟨w.heap.size, 2, none⟩ = some (.slice A.a2 M.nlb A.c2)) (by kernel_rfl) (HSc.out _ hA0) (fun hHeld => ?_)
  refine wpAnyH_take (i := 0) (oi := ?o0) (v := ?v0) ?hi0 ?hs0 ?hf0 ?hr0 ?hQ0 (Or.inl ⟨?hw0, ?hy0⟩) ?hS0 ?rest0
  case hi0 => simp only [List.getElem?_toArray, List.getElem?_cons_zero]; rfl
  case hs0 => kernel_rfl
  case hf0 => kernel_rfl
  case hr0 => kernel_rfl
  case hQ0 => exact fun _ _ _ h => h
  case hS0 => assumption
  case hw0 => rfl
  case hy0 => intro w' hSw; (try dsimp only at hSw); go_simp; first | done | with_reducible rfl
  (try simp only [Act.put, List.setIfInBounds_toArray, List.set_cons_zero, List.set_cons_succ])
  refine wpAnyH_take (i := 1) (oi := ?o1) (v := ?v1) ?hi1 ?hs1 ?hf1 ?hr1 ?hQ1 (Or.inl ⟨?hw1, ?hy1⟩) ?hS1 ?rest1
  case hi1 => simp only [List.getElem?_toArray, List.getElem?_cons_succ, List.getElem?_cons_zero]; rfl
  case hs1 => kernel_rfl
  case hf1 => kernel_rfl
  case hr1 => kernel_rfl
  case hQ1 => exact fun _ _ _ h => h
  case hS1 => assumption
  case hw1 => rfl
  case hy1 => intro w' hSw; (try dsimp only at hSw); go_simp; first | done | with_reducible rfl
  (try simp only [Act.put, List.setIfInBounds_toArray, List.set_cons_zero, List.set_cons_succ])
  refine wpAnyH_take (i := 2) (oi := ?o2) (v := ?v2) ?hi2 ?hs2 ?hf2 ?hr2 ?hQ2 (Or.inl ⟨?hw2, ?hy2⟩) ?hS2 ?rest2
  case hi2 => simp only [List.getElem?_toArray, List.getElem?_cons_succ, List.getElem?_cons_zero]; rfl
  case hs2 => kernel_rfl
  case hf2 => kernel_rfl
  case hr2 => kernel_rfl
  case hQ2 => exact fun _ _ _ h => h
  case hS2 => assumption
  case hw2 => rfl
  case hy2 => intro w' hSw; (try dsimp only at hSw); go_simp; first | done | with_reducible rfl
  (try simp only [Act.put, List.setIfInBounds_toArray, List.set_cons_zero, List.set_cons_succ])
  refine wpAnyH_take (i := 3) (oi := ?o3) (v := ?v3) ?hi3 ?hs3 ?hf3 ?hr3 ?hQ3 (Or.inl ⟨?hw3, ?hy3⟩) ?hS3 ?rest3
  case hi3 => simp only [List.getElem?_toArray, List.getElem?_cons_succ, List.getElem?_cons_zero]; rfl
  case hs3 => kernel_rfl
  case hf3 => kernel_rfl
  case hr3 => kernel_rfl
  case hQ3 => exact fun _ _ _ h => h
  case hS3 => assumption
  case hw3 => rfl
  case hy3 => intro w' hSw; (try dsimp only at hSw); go_simp; first | done | with_reducible rfl
  (try simp only [Act.put, List.setIfInBounds_toArray, List.set_cons_zero, List.set_cons_succ])
  refine wpAnyH_take (i := 5) (oi := ?o5) (v := ?v5) ?hi5 ?hs5 ?hf5 ?hr5 ?hQ5 (Or.inl ⟨?hw5, ?hy5⟩) ?hS5 ?rest5
  case hi5 => simp only [List.getElem?_toArray, List.getElem?_cons_succ, List.getElem?_cons_zero]; rfl
  case hs5 => kernel_rfl
  case hf5 => kernel_rfl
  case hr5 => kernel_rfl
  case hQ5 => exact fun _ _ _ h => h
  case hS5 => assumption
  case hw5 => rfl
  case hy5 => intro w' hSw; (try dsimp only at hSw); go_simp; first | done | with_reducible rfl
  (try simp only [Act.put, List.setIfInBounds_toArray, List.set_cons_zero, List.set_cons_succ])
  refine wpAnyH_take (i := 6) (oi := ?o6) (v := ?v6) ?hi6 ?hs6 ?hf6 ?hr6 ?hQ6 (Or.inl ⟨?hw6, ?hy6⟩) ?hS6 ?rest6
  case hi6 => simp only [List.getElem?_toArray, List.getElem?_cons_succ, List.getElem?_cons_zero]; rfl
  case hs6 => kernel_rfl
  case hf6 => kernel_rfl
  case hr6 => kernel_rfl
  case hQ6 => exact fun _ _ _ h => h
  case hS6 => assumption
  case hw6 => rfl
  case hy6 => intro w' hSw; (try dsimp only at hSw); go_simp; first | done | with_reducible rfl
  (try simp only [Act.put, List.setIfInBounds_toArray, List.set_cons_zero, List.set_cons_succ])
  refine wpAnyH_ready (rs := [4, 9]) (by kernel_rfl) (by simp) ?_
  refine AllReadyH.cons (o := ?o4) ?hi4 (fun K4 hK4 => ?_) (AllReadyH.cons (o := ?o9) ?hi9 (fun K9 hK9 => ?_) AllReadyH.nil)
  case hi4 => simp only [List.getElem?_toArray, List.getElem?_cons_succ, List.getElem?_cons_zero]; rfl
  case hi9 => simp only [List.getElem?_toArray, List.getElem?_cons_succ, List.getElem?_cons_zero]; rfl
  · go_simp
    refine Calls.mono (HC1.out _ hA0) ?_
    rintro e w3 ⟨rfl, hN3, hD3⟩
    have hA3 := hA0.trans (hD3.mono hA0.size)
    go_wp2_with fail
    refine hK4.out _ _ (HSc.out _ hA3) (fun hHeld => ?_)
    (try simp only [Act.put, List.setIfInBounds_toArray, List.set_cons_zero, List.set_cons_succ])
    refine wpAnyH_ready (rs := [7, 9]) (by kernel_rfl) (by simp) ?_
    refine AllReadyH.cons (o := ?ox1_7) ?hix1_7 (fun K7 hK7 => ?_) (AllReadyH.cons (o := ?ox1_9) ?hix1_9 (fun K9 hK9 => ?_) AllReadyH.nil)
    case hix1_7 => simp only [List.getElem?_toArray, List.getElem?_cons_succ, List.getElem?_cons_zero]; rfl
    case hix1_9 => simp only [List.getElem?_toArray, List.getElem?_cons_succ, List.getElem?_cons_zero]; rfl
    · go_simp
      refine Calls.mono (HC2.out _ hA3) ?_
      rintro e w4 ⟨rfl, hN4, hD4⟩
      have hA4 := hA3.trans (hD4.mono hA3.size)
      go_wp2_with fail
      refine hK7.out _ _ (HSc.out _ hA4) (fun hHeld => ?_)
      (try simp only [Act.put, List.setIfInBounds_toArray, List.set_cons_zero, List.set_cons_succ])
      refine wpAnyH_take (i := 8) (oi := ?ox1_8) (v := ?vx1_8) ?hix1_8 ?hsx1_8 ?hfx1_8 ?hrx1_8 ?hQx1_8 (Or.inl ⟨?hwx1_8, ?hyx1_8⟩) ?hSx1_8 ?restx1_8
      case hix1_8 => simp only [List.getElem?_toArray, List.getElem?_cons_succ, List.getElem?_cons_zero]; rfl
      case hsx1_8 => kernel_rfl
      case hfx1_8 => kernel_rfl
      case hrx1_8 => kernel_rfl
      case hQx1_8 => exact fun _ _ _ h => h
      case hSx1_8 => assumption
      case hwx1_8 => rfl
      case hyx1_8 => intro w' hSw; (try dsimp only at hSw); go_simp; first | done | with_reducible rfl
      (try simp only [Act.put, List.setIfInBounds_toArray, List.set_cons_zero, List.set_cons_succ])
      (try simp only [Act.put, List.setIfInBounds_toArray, List.set_cons_zero, List.set_cons_succ])
      refine wpAnyH_ready (rs := [9]) (by kernel_rfl) (by simp) ?_
      refine AllReadyH.cons (o := ?ox2_9) ?hix2_9 (fun K9 hK9 => ?_) AllReadyH.nil
      case hix2_9 => simp only [List.getElem?_toArray, List.getElem?_cons_succ, List.getElem?_cons_zero]; rfl
      go_simp
      obtain ⟨W5, hW5⟩ : ∃ W, W = w4.alloc (.cells #[.int .i64 0, .slice none 0 0, .slice none 0 0, .slice none 0 0, .slice none 0 0, .slice none 0 0, .slice none 0 0] 26) := ⟨_, rfl⟩
      have hD5 : Below w4.heap.size w4 W5 := by rw [hW5]; exact bel_box _ _
      have hT5 : W5.there w4.heap.size 0 7 := by rw [hW5]; exact zeroT_there w4 _
      have Hz5 : Hid (W5.heap.size = w4.heap.size + 1) := by show _ = _; rw [hW5]; simp
      rw [← hW5]
      have hA5 := hA4.trans (hD5.mono hA4.size)
      refine hK9.out _ _ (HSc.out _ hA5) (fun hHeld => ?_)
      clear hW5
      (try simp only [Act.put, List.setIfInBounds_toArray, List.set_cons_zero, List.set_cons_succ])
      refine wpAnyH_ready (rs := [10]) (by kernel_rfl) (by simp) ?_
      refine AllReadyH.cons (o := ?ox1_10) ?hix1_10 (fun K10 hK10 => ?_) AllReadyH.nil
      case hix1_10 => simp only [List.getElem?_toArray, List.getElem?_cons_succ, List.getElem?_cons_zero]; rfl
      have e3 := hA3.size
      have e4 := hA4.size
      have l3 := hN3.lt hncl
      have l4 := hN4.lt hnlb
      have e34 := hD4.size
      have z5 := Hz5.out
      have pr := HIn.out w4.heap.size w2.heap.size w3.heap.size W5 hA5 ((hN3.below hD4).below hD5) (hN4.below hD5) hT5 (by omega) (by omega) (Nat.le_refl _) (by omega) (by have : w2.heap.size < w3.heap.size := l3; omega) (by omega)
      rw [if_pos (by rfl)]
      refine wp_store_mid 26 _ _ rfl w4.heap.size 0 #[.int .i64 M.rules, .slice (some ⟨w2.heap.size, 0, none⟩) M.ncl M.ncl, .slice (some ⟨w3.heap.size, 0, none⟩) M.nlb M.nlb, .slice none 0 0, .slice none 0 0, .slice none 0 0, .slice none 0 0] rfl rfl hT5 info_tables (by simp [Value.oneCell']) ?_
      refine hK10.out _ _ ⟨pr.m.c0, pr.m.c1, pr.m.c2⟩ (fun hHeld => ?_)
      refine wpAnyH_done (by kernel_rfl) ?_ _
      exact HREST.out w4.heap.size w2.heap.size w3.heap.size _ _ pr
    · go_simp
      obtain ⟨W4, hW4⟩ : ∃ W, W = w3.alloc (.cells #[.int .i64 0, .slice none 0 0, .slice none 0 0, .slice none 0 0, .slice none 0 0, .slice none 0 0, .slice none 0 0] 26) := ⟨_, rfl⟩
      have hD4 : Below w3.heap.size w3 W4 := by rw [hW4]; exact bel_box _ _
      have hT4 : W4.there w3.heap.size 0 7 := by rw [hW4]; exact zeroT_there w3 _
      have Hz4 : Hid (W4.heap.size = w3.heap.size + 1) := by show _ = _; rw [hW4]; simp
      rw [← hW4]
      have hA4 := hA3.trans (hD4.mono hA3.size)
      refine hK9.out _ _ (HSc.out _ hA4) (fun hHeld => ?_)
      clear hW4
      (try simp only [Act.put, List.setIfInBounds_toArray, List.set_cons_zero, List.set_cons_succ])
      refine wpAnyH_ready (rs := [7]) (by kernel_rfl) (by simp) ?_
      refine AllReadyH.cons (o := ?ox2_7) ?hix2_7 (fun K7 hK7 => ?_) AllReadyH.nil
      case hix2_7 => simp only [List.getElem?_toArray, List.getElem?_cons_succ, List.getElem?_cons_zero]; rfl
      go_simp
      refine Calls.mono (HC2.out _ hA4) ?_
      rintro e w5 ⟨rfl, hN5, hD5⟩
      have hA5 := hA4.trans (hD5.mono hA4.size)
      go_wp2_with fail
      refine hK7.out _ _ (HSc.out _ hA5) (fun hHeld => ?_)
      (try simp only [Act.put, List.setIfInBounds_toArray, List.set_cons_zero, List.set_cons_succ])
      refine wpAnyH_take (i := 8) (oi := ?ox2_8) (v := ?vx2_8) ?hix2_8 ?hsx2_8 ?hfx2_8 ?hrx2_8 ?hQx2_8 (Or.inl ⟨?hwx2_8, ?hyx2_8⟩) ?hSx2_8 ?restx2_8
      case hix2_8 => simp only [List.getElem?_toArray, List.getElem?_cons_succ, List.getElem?_cons_zero]; rfl
      case hsx2_8 => kernel_rfl
      case hfx2_8 => kernel_rfl
      case hrx2_8 => kernel_rfl
      case hQx2_8 => exact fun _ _ _ h => h
      case hSx2_8 => assumption
      case hwx2_8 => rfl
      case hyx2_8 => intro w' hSw; (try dsimp only at hSw); go_simp; first | done | with_reducible rfl
      (try simp only [Act.put, List.setIfInBounds_toArray, List.set_cons_zero, List.set_cons_succ])
      (try simp only [Act.put, List.setIfInBounds_toArray, List.set_cons_zero, List.set_cons_succ])
      refine wpAnyH_ready (rs := [10]) (by kernel_rfl) (by simp) ?_
      refine AllReadyH.cons (o := ?ox2_10) ?hix2_10 (fun K10 hK10 => ?_) AllReadyH.nil
      case hix2_10 => simp only [List.getElem?_toArray, List.getElem?_cons_succ, List.getElem?_cons_zero]; rfl
      have e3 := hA3.size
      have e4 := hA4.size
      have e5 := hA5.size
      have l3 : w2.heap.size < w3.heap.size := hN3.lt hncl
      have e45 := hD5.size
      have hT6 := there_below hT4 (by omega) hD5
      have z4 := Hz4.out
      have pr := HIn.out w3.heap.size w2.heap.size W4.heap.size w5 hA5 ((hN3.below hD4).below hD5) hN5 hT6 (by omega) (by omega) (Nat.le_refl _) (by omega) (by omega) (by omega)
      rw [if_pos (by rfl)]
      refine wp_store_mid 26 _ _ rfl w3.heap.size 0 #[.int .i64 M.rules, .slice (some ⟨w2.heap.size, 0, none⟩) M.ncl M.ncl, .slice (some ⟨W4.heap.size, 0, none⟩) M.nlb M.nlb, .slice none 0 0, .slice none 0 0, .slice none 0 0, .slice none 0 0] rfl rfl hT6 info_tables (by simp [Value.oneCell']) ?_
      refine hK10.out _ _ ⟨pr.m.c0, pr.m.c1, pr.m.c2⟩ (fun hHeld => ?_)
      refine wpAnyH_done (by kernel_rfl) ?_ _
      exact HREST.out w3.heap.size w2.heap.size W4.heap.size _ _ pr
  · go_simp
    obtain ⟨W3, hW3⟩ : ∃ W, W = (w2.alloc (.cells #[.int .i64 0, .slice none 0 0, .slice none 0 0, .slice none 0 0, .slice none 0 0, .slice none 0 0, .slice none 0 0] 26)).drew := ⟨_, rfl⟩
    have hD3 : Below w2.heap.size w2 W3 := by rw [hW3]; exact (bel_box _ _).trans (Below.refl _ _).drew
    have hT3 : W3.there w2.heap.size 0 7 := by rw [hW3]; exact zeroT_there w2 _
    have Hz3 : Hid (W3.heap.size = w2.heap.size + 1) := by show _ = _; rw [hW3]; simp
    rw [← hW3]
    have hA3 := hD3
    refine hK9.out _ _ (HSc.out _ hA3) (fun hHeld => ?_)
    clear hW3
    (try simp only [Act.put, List.setIfInBounds_toArray, List.set_cons_zero, List.set_cons_succ])
    refine wpAnyH_ready (rs := [4]) (by kernel_rfl) (by simp) ?_
    refine AllReadyH.cons (o := ?ox1_4) ?hix1_4 (fun K4 hK4 => ?_) AllReadyH.nil
    case hix1_4 => simp only [List.getElem?_toArray, List.getElem?_cons_succ, List.getElem?_cons_zero]; rfl
    go_simp
    refine Calls.mono (HC1.out _ hA3) ?_
    rintro e w4 ⟨rfl, hN4, hD4⟩
    have hA4 := hA3.trans (hD4.mono hA3.size)
    go_wp2_with fail
    refine hK4.out _ _ (HSc.out _ hA4) (fun hHeld => ?_)
    (try simp only [Act.put, List.setIfInBounds_toArray, List.set_cons_zero, List.set_cons_succ])
    refine wpAnyH_ready (rs := [7]) (by kernel_rfl) (by simp) ?_
    refine AllReadyH.cons (o := ?ox3_7) ?hix3_7 (fun K7 hK7 => ?_) AllReadyH.nil
    case hix3_7 => simp only [List.getElem?_toArray, List.getElem?_cons_succ, List.getElem?_cons_zero]; rfl
    go_simp
    refine Calls.mono (HC2.out _ hA4) ?_
    rintro e w5 ⟨rfl, hN5, hD5⟩
    have hA5 := hA4.trans (hD5.mono hA4.size)
    go_wp2_with fail
    refine hK7.out _ _ (HSc.out _ hA5) (fun hHeld => ?_)
    (try simp only [Act.put, List.setIfInBounds_toArray, List.set_cons_zero, List.set_cons_succ])
    refine wpAnyH_take (i := 8) (oi := ?ox3_8) (v := ?vx3_8) ?hix3_8 ?hsx3_8 ?hfx3_8 ?hrx3_8 ?hQx3_8 (Or.inl ⟨?hwx3_8, ?hyx3_8⟩) ?hSx3_8 ?restx3_8
    case hix3_8 => simp only [List.getElem?_toArray, List.getElem?_cons_succ, List.getElem?_cons_zero]; rfl
    case hsx3_8 => kernel_rfl
    case hfx3_8 => kernel_rfl
    case hrx3_8 => kernel_rfl
    case hQx3_8 => exact fun _ _ _ h => h
    case hSx3_8 => assumption
    case hwx3_8 => rfl
    case hyx3_8 => intro w' hSw; (try dsimp only at hSw); go_simp; first | done | with_reducible rfl
    (try simp only [Act.put, List.setIfInBounds_toArray, List.set_cons_zero, List.set_cons_succ])
    (try simp only [Act.put, List.setIfInBounds_toArray, List.set_cons_zero, List.set_cons_succ])
    refine wpAnyH_ready (rs := [10]) (by kernel_rfl) (by simp) ?_
    refine AllReadyH.cons (o := ?ox3_10) ?hix3_10 (fun K10 hK10 => ?_) AllReadyH.nil
    case hix3_10 => simp only [List.getElem?_toArray, List.getElem?_cons_succ, List.getElem?_cons_zero]; rfl
    have e3 : w2.heap.size ≤ W3.heap.size := hA3.size
    have e4 := hA4.size
    have e5 := hA5.size
    have z3 : W3.heap.size = w2.heap.size + 1 := Hz3.out
    have l4 := hN4.lt hncl
    have e34 := hD4.size
    have e45 := hD5.size
    have hT4 : w4.there w2.heap.size 0 7 := there_below hT3 (by omega) hD4
    have hT6 := there_below hT4 (by omega) hD5
    have pr := HIn.out w2.heap.size W3.heap.size w4.heap.size w5 hA5 (hN4.below hD5) hN5 hT6 (Nat.le_refl _) (by omega) (by omega) (by omega) (by omega) (by omega)
    rw [if_pos (by rfl)]
    refine wp_store_mid 26 _ _ rfl w2.heap.size 0 #[.int .i64 M.rules, .slice (some ⟨W3.heap.size, 0, none⟩) M.ncl M.ncl, .slice (some ⟨w4.heap.size, 0, none⟩) M.nlb M.nlb, .slice none 0 0, .slice none 0 0, .slice none 0 0, .slice none 0 0] rfl rfl hT6 info_tables (by simp [Value.oneCell']) ?_
    refine hK10.out _ _ ⟨pr.m.c0, pr.m.c1, pr.m.c2⟩ (fun hHeld => ?_)
    refine wpAnyH_done (by kernel_rfl) ?_ _
    exact HREST.out w2.heap.size W3.heap.size w4.heap.size _ _ pr
end Go.Proofs.Ytoaaklhpmhjhkaa
