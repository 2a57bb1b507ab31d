/-
  munchkeep's sameInts, sameTables and Whole.
-/
import Derived.Test.YtoaaklhpmhjhkabKpC
import Derived.Test.YtoaaklhpmhjhkabKpE
import Derived.Test.YtoaaklhpmhjhkabLdN
namespace Go.Proofs.Ytoaaklhpmhjhkab
open Go.RowKit

set_option maxHeartbeats 1000000 in
theorem kSameInts_any (ad ad' : Option Addr) (n cap cap' : Nat) (f : Nat → Int) (w : World) (hn : n ≤ 17592186044416) (h1 : IL ad f n w) (h2 : IL ad' f n w) :
    Calls Try.prog 31 #[.slice ad n cap, .slice ad' n cap'] w fun e w' => e = .returned (.bool true) ∧ Below w.heap.size w w' := by
  have H1 : Hid (IL ad f n w) := h1
  have H2 : Hid (IL ad' f n w) := h2
  clear h1 h2
  go_enter Try.func31, Try.ntmps31
  go_wp2_with fail
  go_loopw [5] (fun i w' => ∃ k : Nat, k ≤ n ∧ i = .int .i64 k ∧ Below w.heap.size w w') (fun i _ => n - (intOf i).toNat)
  case atStart => exact ⟨0, by omega, rfl, Below.refl _ _⟩
  case round =>
    obtain ⟨k, hk, rfl, hW⟩ := hrel
    by_cases hlt : k < n
    · have hlt' : (k : Int) < (n : Int) := by omega
      obtain ⟨b, off, rfl, c1⟩ := H1.out.below hW k hlt
      obtain ⟨b', off', rfl, c2⟩ := H2.out.below hW k hlt
      have i0 : (0 : Int) ≤ (k : Int) := by omega
      go_wp2_with fail
      go_quiet (fail)
      go_wp2_with fail
      go_roundw
      case rel => exact ⟨k + 1, by omega, by go_num, hW.trans (bel_drewN _ _ _)⟩
      case measure => simp [intOf]; omega
    · have hge : ¬ (k : Int) < (n : Int) := by omega
      go_wp2_with fail
      go_ret
      exact ⟨rfl, hW⟩

set_option maxRecDepth 100000 in
set_option maxHeartbeats 4000000 in
theorem kSameTables_any (T : Tb) (A B : TbA) (w : World) (hs : TbSz T) (hA : TbIn T A w) (hB : TbIn T B w) :
    Calls Try.prog 12 #[.agg (A.cells T), .agg (B.cells T)] w fun e w' => e = .returned (.bool true) ∧ Below w.heap.size w w' := by
  obtain ⟨W0, hW0⟩ : ∃ W, W = w.alloc (.cells (A.cells T) 28) := ⟨_, rfl⟩
  obtain ⟨W, hW⟩ : ∃ W, W = W0.alloc (.cells (B.cells T) 28) := ⟨_, rfl⟩
  have x0 : Below w.heap.size w W0 := by rw [hW0]; exact bel_box _ _
  have x1 : Below W0.heap.size W0 W := by rw [hW]; exact bel_box _ _
  have z0 : W0.heap.size = w.heap.size + 1 := by rw [hW0]; simp
  have hB2 := x0.trans (x1.mono x0.size)
  have hAt1 : TbAt w.heap.size T A W := by
    have h : TbAt w.heap.size T A W0 := by rw [hW0]; exact TbAt.boxed T A w _
    exact h.below x1
  have hAt2 : TbAt (w.heap.size + 1) T B W := by rw [← z0, hW]; exact TbAt.boxed T B W0 _
  have hR2 := hA.below hB2
  have hI2 := hB.below hB2
  rw [hW0] at hW
  have HW : Hid (W = (w.alloc (.cells (A.cells T) 28)).alloc (.cells (B.cells T) 28)) := hW
  unfold TbA.cells at *
  have p1 := hAt1.c1
  have q1 := hAt2.c1
  rw [hW] at p1 q1
  clear hW hW0 x0 x1 z0
  have HAt : Hid (∀ w', Below W.heap.size W w' → TbAt w.heap.size T A w' ∧ TbAt (w.heap.size + 1) T B w') := fun w' h' => ⟨hAt1.below h', hAt2.below h'⟩
  have HC1 : Hid (∀ w', Below W.heap.size W w' → Calls Try.prog 31 #[.slice A.a1 T.ncl A.c1, .slice B.a1 T.ncl B.c1] w' fun e w'' => e = .returned (.bool true) ∧ Below w'.heap.size w' w'') := fun w' h' => kSameInts_any A.a1 B.a1 T.ncl A.c1 B.c1 T.cl w' (by have := hs.s1; omega) (hR2.l1.below h') (hI2.l1.below h')
  have HC2 : Hid (∀ w', Below W.heap.size W w' → Calls Try.prog 31 #[.slice A.a2 T.nlb A.c2, .slice B.a2 T.nlb B.c2] w' fun e w'' => e = .returned (.bool true) ∧ Below w'.heap.size w' w'') := fun w' h' => kSameInts_any A.a2 B.a2 T.nlb A.c2 B.c2 T.lb w' (by have := hs.s2; omega) (hR2.l2.below h') (hI2.l2.below h')
  have HC3 : Hid (∀ w', Below W.heap.size W w' → Calls Try.prog 31 #[.slice A.a3 T.nbs A.c3, .slice B.a3 T.nbs B.c3] w' fun e w'' => e = .returned (.bool true) ∧ Below w'.heap.size w' w'') := fun w' h' => kSameInts_any A.a3 B.a3 T.nbs A.c3 B.c3 T.bs w' (by have := hs.s3; omega) (hR2.l3.below h') (hI2.l3.below h')
  have HC4 : Hid (∀ w', Below W.heap.size W w' → Calls Try.prog 31 #[.slice A.a4 T.ndf A.c4, .slice B.a4 T.ndf B.c4] w' fun e w'' => e = .returned (.bool true) ∧ Below w'.heap.size w' w'') := fun w' h' => kSameInts_any A.a4 B.a4 T.ndf A.c4 B.c4 T.df w' (by have := hs.s4; omega) (hR2.l4.below h') (hI2.l4.below h')
  have HC5 : Hid (∀ w', Below W.heap.size W w' → Calls Try.prog 31 #[.slice A.a5 T.nck A.c5, .slice B.a5 T.nck B.c5] w' fun e w'' => e = .returned (.bool true) ∧ Below w'.heap.size w' w'') := fun w' h' => kSameInts_any A.a5 B.a5 T.nck A.c5 B.c5 T.ck w' (by have := hs.s5; omega) (hR2.l5.below h') (hI2.l5.below h')
  have HC6 : Hid (∀ w', Below W.heap.size W w' → Calls Try.prog 31 #[.slice A.a6 T.nnx A.c6, .slice B.a6 T.nnx B.c6] w' fun e w'' => e = .returned (.bool true) ∧ Below w'.heap.size w' w'') := fun w' h' => kSameInts_any A.a6 B.a6 T.nnx A.c6 B.c6 T.nx w' (by have := hs.s6; omega) (hR2.l6.below h') (hI2.l6.below h')
  have hA0 : Below W.heap.size W W := Below.refl _ _
  have HB2 : Hid (Below w.heap.size w W) := hB2
  clear hAt1 hAt2 hR2 hI2 hA hB hB2 hs
  go_enter Try.func12, Try.ntmps12
  go_wp2_with fail
  rw [← HW.out]
  clear HW p1 q1
  refine Calls.mono (HC1.out _ hA0) ?_
  rintro e w1 ⟨rfl, hD1⟩
  have hA1 := hA0.trans (hD1.mono hA0.size)
  have p := (HAt.out w1 hA1).1.c2
  have q := (HAt.out w1 hA1).2.c2
  go_wp2_with fail
  clear p q
  refine Calls.mono (HC2.out _ hA1) ?_
  rintro e w2 ⟨rfl, hD2⟩
  have hA2 := hA1.trans (hD2.mono hA1.size)
  have p := (HAt.out w2 hA2).1.c3
  have q := (HAt.out w2 hA2).2.c3
  go_wp2_with fail
  clear p q
  refine Calls.mono (HC3.out _ hA2) ?_
  rintro e w3 ⟨rfl, hD3⟩
  have hA3 := hA2.trans (hD3.mono hA2.size)
  have p := (HAt.out w3 hA3).1.c4
  have q := (HAt.out w3 hA3).2.c4
  go_wp2_with fail
  clear p q
  refine Calls.mono (HC4.out _ hA3) ?_
  rintro e w4 ⟨rfl, hD4⟩
  have hA4 := hA3.trans (hD4.mono hA3.size)
  have p := (HAt.out w4 hA4).1.c5
  have q := (HAt.out w4 hA4).2.c5
  go_wp2_with fail
  clear p q
  refine Calls.mono (HC5.out _ hA4) ?_
  rintro e w5 ⟨rfl, hD5⟩
  have hA5 := hA4.trans (hD5.mono hA4.size)
  have p := (HAt.out w5 hA5).1.c6
  have q := (HAt.out w5 hA5).2.c6
  go_wp2_with fail
  clear p q
  refine Calls.mono (HC6.out _ hA5) ?_
  rintro e w6 ⟨rfl, hD6⟩
  have hA6 := hA5.trans (hD6.mono hA5.size)
  have p := (HAt.out w6 hA6).1.c0
  have q := (HAt.out w6 hA6).2.c0
  go_wp2_with fail
  go_ret
  exact ⟨ret_bool (by simp), HB2.out.trans (hA6.mono HB2.out.size)⟩
theorem IL.cg {ad : Option Addr} {f g : Nat → Int} {n : Nat} {w : World} (h : IL ad f n w) (e : ∀ i, i < n → f i = g i) : IL ad g n w := fun i hi => by rw [← e i hi]; exact h i hi
theorem TEq.cells {T U : Tb} (h : TEq T U) (A : TbA) : A.cells U = A.cells T := by
  unfold TbA.cells
  rw [h.r, h.n1, h.n2, h.n3, h.n4, h.n5, h.n6]
theorem TEq.in_ {T U : Tb} (h : TEq T U) {A : TbA} {w : World} (hI : TbIn U A w) : TbIn T A w := by
  refine ⟨?_, ?_, ?_, ?_, ?_, ?_⟩
  · have := hI.l1; rw [← h.n1] at this; exact this.cg (fun i hi => (h.f1 i hi).symm)
  · have := hI.l2; rw [← h.n2] at this; exact this.cg (fun i hi => (h.f2 i hi).symm)
  · have := hI.l3; rw [← h.n3] at this; exact this.cg (fun i hi => (h.f3 i hi).symm)
  · have := hI.l4; rw [← h.n4] at this; exact this.cg (fun i hi => (h.f4 i hi).symm)
  · have := hI.l5; rw [← h.n5] at this; exact this.cg (fun i hi => (h.f5 i hi).symm)
  · have := hI.l6; rw [← h.n6] at this; exact this.cg (fun i hi => (h.f6 i hi).symm)
theorem TEq.sz {T U : Tb} (h : TEq T U) (hs : TbSz T) : TbSz U :=
  ⟨by rw [← h.n1]; exact hs.s1, by rw [← h.n2]; exact hs.s2, by rw [← h.n3]; exact hs.s3, by rw [← h.n4]; exact hs.s4, by rw [← h.n5]; exact hs.s5, by rw [← h.n6]; exact hs.s6⟩

set_option maxRecDepth 100000 in
set_option maxHeartbeats 8000000 in
theorem Whole_any (rules : Int) (s : ByteArray) (la : Option Addr) (nl lc : Nat) (lf : Nat → Int) (na : Option Addr) (nn nc : Nat) (nf : Nat → Int) (w : World) (hr : InI rules) (hs : s.size ≤ 140737488355328)
    (hl : IL la lf nl w) (hlr : ∀ i, i < nl → InI (lf i)) (hnl : nl ≤ 17592186044416) (hn : IL na nf nn w) (hnr : ∀ i, i < nn → InI (nf i)) (hnn : nn ≤ 17592186044416) :
    Calls Try.prog 3 #[.int .i64 rules, .string s, .slice la nl lc, .slice na nn nc] w fun e w' => e = .returned (.bool true) ∧ Below w.heap.size w w' := by
  have HM : Hid (Calls Try.prog 8 #[.int .i64 rules, .string s, .slice la nl lc, .slice na nn nc] w (MkPost w)) := keepMachine_any rules s la nl lc lf na nn nc nf w hr hs hl hlr hnl hn hnr hnn
  clear hr hs hl hlr hnl hn hnr hnn
  go_enter Try.func3, Try.ntmps3
  go_wp2_with fail
  refine HM.out.mono ?_
  rintro e w1 ⟨M, A, hS, rfl, hI, hB1⟩
  clear HM
  have HS : Hid (SndM M) := hS
  -- the machine, boxed
  obtain ⟨W2, hW2⟩ : ∃ W, W = w1.alloc (.cells (A.cells M) 24) := ⟨_, rfl⟩
  have x2 : Below w1.heap.size w1 W2 := by rw [hW2]; exact bel_box _ _
  have a2 : McAt w1.heap.size M A W2 := by rw [hW2]; exact McAt.boxed M A w1 _
  have i2 := hI.below x2
  have b2 := hB1.trans (x2.mono hB1.size)
  have HF : Hid (Calls Try.prog 9 #[.agg (A.cells M)] W2 (FiledPost M W2)) := filed_any M A W2 hS i2
  obtain ⟨d0, d1, d2, d3⟩ := a2
  have HA2 : Hid (McAt w1.heap.size M A W2) := ⟨d0, d1, d2, d3⟩
  have HB2 : Hid (Below w.heap.size w W2) := b2
  unfold McA.cells at hW2 HF ⊢
  rw [hW2] at d0 d1 d2 d3
  clear hI hB1 x2 i2 b2 hS
  go_wp2_with fail
  rw [← hW2]
  clear hW2 d0 d1 d2 d3
  refine HF.out.mono ?_
  rintro e w3 ⟨g1, g2, vb, vd, vc, vn, rfl, hP, hB3⟩
  clear HF
  obtain ⟨A3, hA3, hI3⟩ := hP.tb
  rw [hA3]
  clear hP hA3 g1 g2 vb vd vc vn
  obtain ⟨W4, hW4⟩ : ∃ W, W = w3.alloc (.cells (A3.cells (packT M)) 28) := ⟨_, rfl⟩
  have x4 : Below w3.heap.size w3 W4 := by rw [hW4]; exact bel_box _ _
  have b4 := hB3.trans (x4.mono hB3.size)
  have t4 : TbAt w3.heap.size (packT M) A3 W4 := by rw [hW4]; exact TbAt.boxed _ _ _ _
  have m4 := HA2.out.below b4
  have HL : Hid (Calls Try.prog 10 #[.string (mfile M)] W4 (LexPost (mfile M) W4)) := lexer_any (mfile M) W4 (mfile_of HS.out).good.small (mfile_of HS.out).good
  have HB4 : Hid (Below W2.heap.size W2 W4) := b4
  have HI4 : Hid (TbIn (packT M) A3 W4) := hI3.below x4
  have HT4 : Hid (TbAt w3.heap.size (packT M) A3 W4) := t4
  unfold TbA.cells at hW4 ⊢
  obtain ⟨m0, _, m2, _⟩ := m4
  obtain ⟨t0, _, t2, _, _, _, _⟩ := t4
  rw [hW4] at m0 m2 t0 t2
  have e0 : (packT M).rules = M.rules := rfl
  have e1 : (packT M).ncl = M.ncl := rfl
  have e2 : (packT M).nlb = M.nlb := rfl
  simp only [e0, e1, e2] at hW4 t0 t2 m0 m2 ⊢
  have q1 : (M.rules == M.rules) = true := by simp
  have q2 : (M.rules != M.rules) = false := by simp
  have q3 : ((M.nlb : Int) == (M.nlb : Int)) = true := by simp
  have q4 : ((M.nlb : Int) != (M.nlb : Int)) = false := by simp
  clear hB3 x4 b4 hI3
  clear e0 e1 e2
  go_wp2_with fail
  rw [← hW4]
  clear hW4 m0 m2 t0 t2 q1 q2 q3 q4
  refine HL.out.mono ?_
  rintro e w5 ⟨b, A2, rfl, _, hT, hTF, hB5⟩
  clear HL
  have b5 := HB4.out.trans (hB5.mono HB4.out.size)
  have HB5 : Hid (Below w.heap.size w w5) := HB2.out.trans (b5.mono HB2.out.size)
  have HT5 : Hid (TbAt w3.heap.size (packT M) A3 w5) := HT4.out.below hB5
  have HI5 : Hid (TbIn (packT M) A3 w5) := HI4.out.below hB5
  have hE := (mfile_of HS.out).teq
  have HTa : Hid (Calls Try.prog 11 #[.pointer (some ⟨b, 0, none⟩)] w5 (TabPost (fileT (mfile M)) w5)) := tables_any b _ A2 w5 (hE.sz (packT_sz HS.out)) hT hTF.in_
  have HE : Hid (TEq (packT M) (fileT (mfile M))) := hE
  clear hT hTF hB5 b5 HB4 HA2 HB2 HT4 HI4 hE
  go_wp2_with fail
  refine HTa.out.mono ?_
  rintro e w6 ⟨G, rfl, _, _, h6, hB6⟩
  clear HTa
  have i6 : TbIn (packT M) (sixA (fileT (mfile M)) G) w6 := HE.out.in_ h6.in_
  obtain ⟨A6, hA6⟩ : ∃ A6, A6 = sixA (fileT (mfile M)) G := ⟨_, rfl⟩
  rw [← hA6] at i6
  rw [← hA6, HE.out.cells A6]
  clear h6 hA6
  obtain ⟨W7, hW7⟩ : ∃ W, W = w6.alloc (.cells (A6.cells (packT M)) 28) := ⟨_, rfl⟩
  have x7 : Below w6.heap.size w6 W7 := by rw [hW7]; exact bel_box _ _
  have b7 := hB6.trans (x7.mono hB6.size)
  have t7 : TbAt w6.heap.size (packT M) A6 W7 := by rw [hW7]; exact TbAt.boxed _ _ _ _
  have s7 : TbAt w3.heap.size (packT M) A3 W7 := HT5.out.below b7
  have HSa : Hid (Calls Try.prog 12 #[.agg (A6.cells (packT M)), .agg (A3.cells (packT M))] W7 fun e w' => e = .returned (.bool true) ∧ Below W7.heap.size W7 w') := kSameTables_any (packT M) A6 A3 W7 (packT_sz HS.out) (i6.below x7) (HI5.out.below b7)
  have HTt : Hid (∀ w', Below W7.heap.size W7 w' → TbAt w6.heap.size (packT M) A6 w') := fun w' h' => t7.below h'
  have HEn : Hid (∀ w', Below W7.heap.size W7 w' → Calls Try.prog 13 #[.agg (A6.cells (packT M))] w' (EncPost (packT M) w')) := fun w' h' => munchEncode_any (packT M) A6 w' (packT_sz HS.out) ((i6.below x7).below h')
  have HB7 : Hid (Below w.heap.size w W7) := HB5.out.trans (b7.mono HB5.out.size)
  obtain ⟨p0, p1, p2, p3, p4, p5, p6⟩ := t7
  obtain ⟨r0, r1, r2, r3, r4, r5, r6⟩ := s7
  unfold TbA.cells at hW7 HSa HEn ⊢
  rw [hW7] at p0 p1 p2 p3 p4 p5 p6 r0 r1 r2 r3 r4 r5 r6
  have e0 : (packT M).rules = M.rules := rfl
  have e1 : (packT M).ncl = M.ncl := rfl
  have e2 : (packT M).nlb = M.nlb := rfl
  simp only [e0, e1, e2] at hW7 HSa HEn p0 p1 p2 p3 p4 p5 p6 r0 r1 r2 r3 r4 r5 r6 ⊢
  clear e0 e1 e2
  clear x7 b7 i6 hB6 HT5 HI5 HB5
  go_wp2_with fail
  rw [← hW7]
  clear hW7 p0 p1 p2 p3 p4 p5 p6 r0 r1 r2 r3 r4 r5 r6
  refine HSa.out.mono ?_
  rintro e w8 ⟨rfl, hB8⟩
  clear HSa
  obtain ⟨p0, p1, p2, p3, p4, p5, p6⟩ := HTt.out w8 hB8
  have e0 : (packT M).rules = M.rules := rfl
  have e1 : (packT M).ncl = M.ncl := rfl
  have e2 : (packT M).nlb = M.nlb := rfl
  simp only [e0, e1, e2] at p0 p1 p2
  clear e0 e1 e2
  go_wp2_with fail
  clear p0 p1 p2 p3 p4 p5 p6
  refine (HEn.out w8 hB8).mono ?_
  rintro e w9 ⟨hB9, h⟩
  rcases h with ⟨_, rfl⟩ | ⟨hSd, rfl⟩
  case inr => exact absurd (packT_snd HS.out) hSd
  have HFin : Hid (Below w.heap.size w w9) := HB7.out.trans ((hB8.trans (hB9.mono hB8.size)).mono HB7.out.size)
  have ef : (⟨(fileL (packT M)).toArray⟩ : ByteArray) = mfile M := rfl
  rw [ef]
  generalize mfile M = F at *
  have q5 : (F.toList == F.toList) = true := by simp
  clear hB8 hB9 HEn HTt ef
  go_wp2_with fail
  go_ret
  exact ⟨rfl, HFin.out⟩
end Go.Proofs.Ytoaaklhpmhjhkab
