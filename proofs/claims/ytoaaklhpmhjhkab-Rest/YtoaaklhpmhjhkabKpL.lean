/-
  munchkeep's Rest.
-/
import Derived.Test.YtoaaklhpmhjhkabKpC
import Derived.Test.YtoaaklhpmhjhkabKpE
import Derived.Test.YtoaaklhpmhjhkabKpH
namespace Go.Proofs.Ytoaaklhpmhjhkab
open Go.RowKit

theorem tks_lenR (T : Tb) (x : ByteArray) : ∀ (u i : Nat), i ≤ x.size → (tks T x u i).length + i ≤ x.size
  | 0, i, h => by simp [tks]; omega
  | u + 1, i, h => by
    rw [tks]
    split
    · rename_i hi
      have hb := tkAt_bd T x i hi
      have := tks_lenR T x u (i + (tkAt T x i).2.toNat) (by omega)
      simp only [List.length_cons]
      omega
    · simp; omega
theorem tks_memR {T : Tb} {x : ByteArray} : ∀ {u i : Nat} {t : Int × Int × Int}, t ∈ tks T x u i → 0 ≤ t.2.1 ∧ t.2.1 < x.size
  | 0, i, t, h => by simp [tks] at h
  | u + 1, i, t, h => by
    rw [tks] at h
    split at h
    · rename_i hi
      rcases List.mem_cons.1 h with rfl | h
      · simp only; omega
      · exact tks_memR h
    · simp at h
theorem tks_nil {T : Tb} {x : ByteArray} : tks T x x.size 0 = [] ↔ x.size = 0 := by
  constructor
  · intro h
    rcases Nat.eq_zero_or_pos x.size with e | e
    · exact e
    · obtain ⟨u, hu⟩ : ∃ u, x.size = u + 1 := ⟨x.size - 1, by omega⟩
      rw [hu, tks, if_pos e] at h; cases h
  · intro h; rw [h]; rfl
theorem from_extract (x : ByteArray) (a : Nat) (h : a ≤ x.size) : From x (x.extract a x.size) a := by
  constructor
  · rw [ByteArray.size_extract]; omega
  · intro i
    unfold fb
    rw [ByteArray.data_extract, List.getD_eq_getElem?_getD, List.getD_eq_getElem?_getD, Array.getElem?_toList, Array.getElem?_toList, Array.getElem?_extract]
    have e : x.size = x.data.size := rfl
    rw [e, Nat.min_self]
    by_cases hi : i < x.data.size - a
    · rw [if_pos hi]
    · rw [if_neg hi, Array.getElem?_eq_none (by omega)]

set_option maxRecDepth 100000 in
set_option maxHeartbeats 8000000 in
theorem Rest_any (rules : Int) (s : ByteArray) (la : Option Addr) (nl lc : Nat) (lf : Nat → Int) (na : Option Addr) (nn nc : Nat) (nf : Nat → Int) (x : ByteArray) (wh : Int) (w : World) (hr : InI rules) (hs : s.size ≤ 140737488355328)
    (hl : IL la lf nl w) (hlr : ∀ i, i < nl → InI (lf i)) (hnl : nl ≤ 17592186044416) (hn : IL na nf nn w) (hnr : ∀ i, i < nn → InI (nf i)) (hnn : nn ≤ 17592186044416) (hx : x.size ≤ 140737488355328) (hwh : InI wh) :
    Calls Try.prog 5 #[.int .i64 rules, .string s, .slice la nl lc, .slice na nn nc, .string x, .int .i64 wh] w fun e w' => e = .returned (.bool true) ∧ Below w.heap.size w w' := by
  have HM : Hid (Calls Try.prog 8 #[.int .i64 rules, .string s, .slice la nl lc, .slice na nn nc] w (MkPost w)) := keepMachine_any rules s la nl lc lf na nn nc nf w hr hs hl hlr hnl hn hnr hnn
  have Hwh : Hid (InI wh) := hwh
  clear hr hs hl hlr hnl hn hnr hnn hwh
  go_enter Try.func5, Try.ntmps5
  go_wp2_with fail
  refine HM.out.mono ?_
  rintro e w1 ⟨M, A, hS, rfl, hI, hB1⟩
  clear HM
  have HS : Hid (SndM M) := hS
  -- the machine, boxed
  obtain ⟨W2, hW2⟩ : ∃ W, W = w1.alloc (.cells (A.cells M) 24) := ⟨_, rfl⟩
  have x2 : Below w1.heap.size w1 W2 := by rw [hW2]; exact bel_box _ _
  have a2 : McAt w1.heap.size M A W2 := by rw [hW2]; exact McAt.boxed M A w1 _
  have i2 := hI.below x2
  have b2 := hB1.trans (x2.mono hB1.size)
  have HF : Hid (Calls Try.prog 9 #[.agg (A.cells M)] W2 (FiledPost M W2)) := filed_any M A W2 hS i2
  obtain ⟨d0, d1, d2, d3⟩ := a2
  have HA2 : Hid (McAt w1.heap.size M A W2) := ⟨d0, d1, d2, d3⟩
  have HI2 : Hid (McIn M A W2) := i2
  have HB2 : Hid (Below w.heap.size w W2) := b2
  unfold McA.cells at hW2 HF ⊢
  rw [hW2] at d0 d1 d2 d3
  clear hI hB1 x2 i2 b2 hS
  go_wp2_with fail
  rw [← hW2]
  clear hW2 d0 d1 d2 d3
  refine HF.out.mono ?_
  rintro e w3 ⟨g1, g2, vb, vd, vc, vn, rfl, hP, hB3⟩
  clear HF
  obtain ⟨A3, hA3, _⟩ := hP.tb
  rw [hA3]
  clear hP hA3 g1 g2 vb vd vc vn
  obtain ⟨W4, hW4⟩ : ∃ W, W = w3.alloc (.cells (A3.cells (packT M)) 28) := ⟨_, rfl⟩
  have x4 : Below w3.heap.size w3 W4 := by rw [hW4]; exact bel_box _ _
  have b4 := hB3.trans (x4.mono hB3.size)
  have HL : Hid (Calls Try.prog 10 #[.string (mfile M)] W4 (LexPost (mfile M) W4)) := lexer_any (mfile M) W4 (mfile_of HS.out).good.small (mfile_of HS.out).good
  have HB4 : Hid (Below W2.heap.size W2 W4) := b4
  unfold TbA.cells at hW4 ⊢
  clear hB3 x4 b4
  go_wp2_with fail
  rw [← hW4]
  clear hW4
  refine HL.out.mono ?_
  rintro e w5 ⟨b, A2, rfl, _, hT, hTF, hB5⟩
  clear HL
  have b5 := HB4.out.trans (hB5.mono HB4.out.size)
  have K5 : ∀ w', Below w5.heap.size w5 w' → TbAt b (fileT (mfile M)) A2 w' ∧ TbIn (fileT (mfile M)) A2 w' := fun w' h' => ⟨hT.below h', hTF.in_.below h'⟩
  have HB5 : Hid (Below w.heap.size w w5) := HB2.out.trans (b5.mono HB2.out.size)
  clear hT hTF hB5 b5 HB4 HA2 HI2 HB2
  have HSc : Hid (∀ (y : ByteArray) (w' : World), y.size ≤ 140737488355328 → Below w5.heap.size w5 w' → Calls Try.prog 17 #[.pointer (some ⟨b, 0, none⟩), .string y] w' (ScanPost (fileT (mfile M)) y w')) := fun y w' hy h' => xScan_any b _ A2 y w' (mfile_of HS.out).snd (K5 w' h').1 (K5 w' h').2 hy
  clear K5
  generalize fileT (mfile M) = T at *
  go_wp2_with fail
  refine (HSc.out x _ hx (Below.refl _ _)).mono ?_
  rintro e w6 ⟨v, rfl, hO, hB6⟩
  by_cases hbig : 2000 < x.size
  · have hbig' : (2000 : Int) < (x.size : Int) := by omega
    have e1 : scErr x = 2 := by rw [scErr, if_pos hbig]
    have e2 : toks T x = [] := by rw [toks, if_pos hbig]
    rw [e2] at hO
    obtain ⟨ad, cap, rfl, _, _, _⟩ := hO.klo
    rw [e1]
    have HFin : Hid (Below w.heap.size w w6) := HB5.out.trans (hB6.mono HB5.out.size)
    clear hO e1 e2 hbig
    simp only [List.length_nil]
    go_wp2_with fail
    go_ret
    exact ⟨rfl, HFin.out⟩
  have hbig' : ¬ (2000 : Int) < (x.size : Int) := by omega
  have e1 : scErr x = 0 := by rw [scErr, if_neg hbig]
  rw [e1]
  obtain ⟨L, hL⟩ : ∃ L, L = toks T x := ⟨_, rfl⟩
  have HL : Hid (L = tks T x x.size 0) := by show _ = _; rw [hL, toks, if_neg hbig]
  rw [← hL] at hO
  clear hL e1
  have HFin : Hid (Below w.heap.size w w6) := HB5.out.trans (hB6.mono HB5.out.size)
  have hLn : L.length ≤ 2000 := by
    have := tks_lenR T x x.size 0 (by omega)
    rw [← HL.out] at this; omega
  obtain ⟨ad, cap, rfl, hcap, had, k6⟩ := hO.klo
  have HK6 : Hid (KLo ad L w6) := k6
  clear hO k6
  by_cases hz : x.size = 0
  · have hL0 : L = [] := by rw [HL.out]; exact tks_nil.2 hz
    subst hL0
    have hxl : x.toList = [] := by
      rw [ByteArray.toList_eq]; exact List.eq_nil_of_length_eq_zero (by simpa using hz)
    have q1 : (x.toList == []) = true := by rw [hxl]; rfl
    simp only [List.length_nil]
    go_wp2_with fail
    go_ret
    exact ⟨rfl, HFin.out⟩
  · have hLp : 0 < L.length := by
      rcases Nat.eq_zero_or_pos L.length with e | e
      · exact absurd (tks_nil.1 (by rw [← HL.out]; exact List.eq_nil_of_length_eq_zero e)) hz
      · exact e
    have q1 : (x.toList == []) = false := by
      rw [beq_eq_false_iff_ne]
      intro h
      rw [ByteArray.toList_eq] at h
      exact hz (by have := congrArg List.length h; simpa using this)
    have q2 : ((L.length : Int) == 0) = false := beq_eq_false_iff_ne.2 (by omega)
    have HP : Hid (Calls Try.prog 15 #[.int .i64 wh, .int .i64 L.length] w6 fun e w' => e = .returned (.int .i64 (pickN wh L.length)) ∧ w' = w6) := pick_any wh L.length w6 Hwh.out (by omega) (by omega)
    have hpl := pickN_lt wh (n := L.length) (by omega)
    obtain ⟨i, hi⟩ : ∃ i, i = pickN wh L.length := ⟨_, rfl⟩
    rw [← hi] at HP hpl
    clear hi
    obtain ⟨t, ht⟩ : ∃ t, L[i]? = some t := ⟨L[i], List.getElem?_eq_getElem hpl⟩
    obtain ⟨a, ta, tb_, tc, td, te⟩ := tks_drop T x i x.size 0 t (by omega) (by rw [← HL.out]; exact ht)
    rw [← HL.out] at te
    obtain ⟨g, o, hg, p0, p1, p2⟩ := HK6.out i t ht
    have ho : o = 0 := by
      rcases had with e | ⟨g', e⟩
      · rw [e] at hg; cases hg
      · rw [e] at hg; cases hg; rfl
    subst ho
    subst hg
    rw [ta] at p1
    simp only [Nat.zero_add] at p0 p1 p2
    have hF := from_extract x a (by omega)
    obtain ⟨y, hy⟩ : ∃ y, y = x.extract a x.size := ⟨_, rfl⟩
    rw [← hy] at hF
    have hyz := hF.z
    have hD : L.drop i = (toks T y).map (shiftK a) := by
      rw [te, toks, if_neg (by omega), tks_fuel T x x.size y.size a (by omega) (by omega)]
      exact tks_from hF y.size 0
    have e3 : scErr y = 0 := by rw [scErr, if_neg (by omega)]
    have HSy : Hid (Calls Try.prog 17 #[.pointer (some ⟨b, 0, none⟩), .string (x.extract a x.size)] w6 fun e w' => ∃ v, e = .returned (.tuple #[v, .int .i64 0]) ∧ OwnK w6.heap.size v (toks T y) w' ∧ Below w6.heap.size w6 w') := by
      have h := HSc.out y w6 (by omega) hB6
      unfold ScanPost at h
      rw [e3] at h
      rw [← hy]
      exact h
    have HD : Hid (L.drop i = (toks T y).map (shiftK a)) := hD
    have HYm : Hid (∀ t ∈ toks T y, 0 ≤ t.2.1 ∧ t.2.1 ≤ 2000) := fun t ht => by
      rw [toks, if_neg (by omega)] at ht
      have := tks_memR ht
      omega
    have q3 : ¬ (a : Int) < 0 := by omega
    have q4 : ¬ (x.size : Int) ≤ (a : Int) := by omega
    have q5 : ((a : Int) == 0) = ((i : Int) == 0) := by
      by_cases e : i = 0
      · have := td.1 e; subst e; rw [this]
      · have : a ≠ 0 := fun h => e (td.2 h)
        rw [beq_eq_false_iff_ne.2 (by omega), beq_eq_false_iff_ne.2 (by omega)]
    obtain ⟨B, hBi⟩ : ∃ B : Bool, ((i : Int) == 0) = B := ⟨_, rfl⟩
    have hBa : ((a : Int) == 0) = B := by rw [q5, hBi]
    have hBB : (B != B) = false := by simp
    have hpl' : (i : Int) < (L.length : Int) := by omega
    have i0 : (0 : Int) ≤ (i : Int) := by omega
    clear hD e3 hyz hF te td ht ta tc tb_ q5
    go_wp2_with fail
    refine HP.out.mono ?_
    rintro e w6 ⟨rfl, rfl⟩
    go_wp2_with fail
    refine HSy.out.mono ?_
    rintro e w7 ⟨v7, rfl, hO7, hB7⟩
    clear HSy HP
    have k7 : KLo (some ⟨g, 0, none⟩) L w7 := HK6.out.below hB7
    have kd := k7.drop (n := i)
    obtain ⟨ad7, cap7, rfl, _, _, kk⟩ := hO7.klo
    have hlen : (toks T y).length = L.length - i := by
      have := congrArg List.length HD.out
      simpa using this.symm
    have HSm : Hid (Calls Try.prog 18 #[.slice (some ⟨g, i * 3, none⟩) (L.length - i) (cap - i), .slice ad7 (L.length - i) cap7, .int .i64 a] w7 fun e w' => e = .returned (.bool true) ∧ Below w7.heap.size w7 w') := keepSame_any (some ⟨g, i * 3, none⟩) ad7 (cap - i) cap7 (L.length - i) a (L.drop i) (toks T y) w7 (by omega) (by omega) (by simp) hlen kd kk HD.out HYm.out
    rw [hlen]
    have HFin2 : Hid (Below w.heap.size w w7) := HFin.out.trans (hB7.mono HFin.out.size)
    clear kd kk k7 hO7 hlen HD HYm
    have hcap' : L.length ≤ cap := hcap
    go_wp2_with fail
    refine HSm.out.mono ?_
    rintro e w8 ⟨rfl, hB8⟩
    have HFin3 : Hid (Below w.heap.size w w8) := HFin2.out.trans (hB8.mono HFin2.out.size)
    go_wp2_with fail
    go_ret
    exact ⟨rfl, HFin3.out⟩
end Go.Proofs.Ytoaaklhpmhjhkab
