/-
  Contract of the program's Sound.
-/
import Derived.Test.YtoaaklhpmhjhkaaEncD
namespace Go.Proofs.Ytoaaklhpmhjhkaa
open Go.RowKit

set_option maxHeartbeats 1000000 in
theorem soundDefs_any (ad : Option Addr) (n cap : Nat) (f : Nat → Int) (w : World) (hn : n ≤ maxLen) (h : IL ad f n w) :
    Calls Try.prog 126 #[.slice ad n cap] w (BPost (∀ i : Nat, i < n → -1 ≤ f i ∧ f i < i) w) := by
  unfold maxLen at hn
  have H : Hid (IL ad f n w) := h
  clear h
  go_enter Try.func126, Try.ntmps126
  go_wp2_with fail
  go_loop [7] (fun i => ∃ k : Nat, k ≤ n ∧ i = .int .i64 k ∧ Hid (∀ i : Nat, i < k → -1 ≤ f i ∧ f i < i)) (fun i => n - (intOf i).toNat)
  case atStart => exact ⟨0, by omega, rfl, fun i hi => by omega⟩
  case round =>
    obtain ⟨k, hk, rfl, HK⟩ := hrel
    by_cases hlt : k < n
    · have hlt' : (k : Int) < (n : Int) := by omega
      obtain ⟨b, off, rfl, c1⟩ := H.out k hlt
      by_cases h1 : f k < -1
      · go_wp2_with fail
        go_ret
        exact BPost.f (fun h => by have := h k hlt; omega)
      · by_cases h2 : (k : Int) ≤ f k
        · go_wp2_with fail
          go_ret
          exact BPost.f (fun h => by have := h k hlt; omega)
        · go_wp2_with fail
          go_round
          case rel => exact ⟨k + 1, by omega, by go_num, fun i hi' => by
            by_cases e : i = k
            · subst e; omega
            · exact HK.out i (by omega)⟩
          case measure => simp [intOf]; omega
    · have hge : ¬ (k : Int) < (n : Int) := by omega
      have hkn : k = n := by omega
      go_wp2_with fail
      go_ret
      exact BPost.t (fun i hi' => HK.out i (by omega))

set_option maxHeartbeats 1000000 in
theorem soundLengths_any (b : Nat) (T : Tb) (A : TbA) (w : World) (hs : TbSz T) (h : TbAt b T A w) :
    Calls Try.prog 124 #[.pointer (some ⟨b, 0, none⟩)] w (BPost (T.nbs = T.nlb ∧ T.ndf = T.nlb ∧ T.nnx = T.nck ∧ T.nck ≤ 24576) w) := by
  obtain ⟨z1, z2, z3, z4, z5, z6⟩ := hs
  obtain ⟨rules, cl, ncl, lb, nlb, bs, nbs, df, ndf, ck, nck, nx, nnx⟩ := T
  obtain ⟨d0, d1, d2, d3, d4, d5, d6⟩ := h
  simp only at *
  generalize hP : (nbs = nlb ∧ ndf = nlb ∧ nnx = nck ∧ nck ≤ 24576) = P
  by_cases e3 : nbs = nlb
  case neg =>
    have q1 : ((nbs : Int) == (nlb : Int)) = false := beq_eq_false_iff_ne.2 (by omega)
    have HN : Hid (¬ P) := by show ¬ P; rw [← hP]; exact fun h => e3 h.1
    clear hP e3
    go_enter Try.func124, Try.ntmps124
    go_wp2_with fail
    go_ret
    exact BPost.f HN.out
  subst e3
  by_cases e4 : ndf = nbs
  case neg =>
    have q1 : ((ndf : Int) == (nbs : Int)) = false := beq_eq_false_iff_ne.2 (by omega)
    have HN : Hid (¬ P) := by show ¬ P; rw [← hP]; exact fun h => e4 h.2.1
    clear hP e4
    go_enter Try.func124, Try.ntmps124
    go_wp2_with fail
    go_ret
    exact BPost.f HN.out
  subst e4
  by_cases e6 : nnx = nck
  case neg =>
    have q1 : ((nnx : Int) == (nck : Int)) = false := beq_eq_false_iff_ne.2 (by omega)
    have HN : Hid (¬ P) := by show ¬ P; rw [← hP]; exact fun h => e6 h.2.2.1
    clear hP e6
    go_enter Try.func124, Try.ntmps124
    go_wp2_with fail
    go_ret
    exact BPost.f HN.out
  subst e6
  by_cases e5 : nnx ≤ 24576
  · have q1 : (nnx : Int) ≤ 24576 := by omega
    have HT : Hid P := by show P; rw [← hP]; exact ⟨rfl, rfl, rfl, e5⟩
    clear hP e5
    go_enter Try.func124, Try.ntmps124
    go_wp2_with fail
    go_ret
    exact BPost.t HT.out
  · have q1 : ¬ (nnx : Int) ≤ 24576 := by omega
    have HN : Hid (¬ P) := by show ¬ P; rw [← hP]; exact fun h => e5 h.2.2.2
    clear hP e5
    go_enter Try.func124, Try.ntmps124
    go_wp2_with fail
    go_ret
    exact BPost.f HN.out

set_option maxRecDepth 100000 in
set_option maxHeartbeats 2000000 in
theorem soundCells_any (b : Nat) (T : Tb) (A : TbA) (w : World) (hs : TbSz T) (h : TbAt b T A w) (hI : TbIn T A w) (e3 : T.nbs = T.nlb) (e6 : T.nnx = T.nck) (e5 : T.nck ≤ 24576) (hb3 : ∀ i, i < T.nlb → 0 ≤ T.bs i ∧ T.bs i ≤ T.nck) :
    Calls Try.prog 127 #[.pointer (some ⟨b, 0, none⟩), .int .i64 (cls T.cl T.ncl)] w (BPost ((∀ k, k < T.nck → CellOK T k) ∧ (T.nck = 0 ∨ T.ck (T.nck - 1) ≠ -1)) w) := by
  obtain ⟨z1, z2, z3, z4, z5, z6⟩ := hs
  have hcl := cls_le T.cl T.ncl
  have HCE : Hid (∀ k' < T.nck, CellOK T k' ↔ ((T.ck k' = -1 ∧ T.nx k' = -1) ∨ ((0 ≤ T.ck k' ∧ T.ck k' < T.nlb) ∧ (-1 ≤ T.nx k' ∧ T.nx k' < T.nlb) ∧ 0 ≤ (k' : Int) - T.bs (T.ck k').toNat ∧ (k' : Int) - T.bs (T.ck k').toNat < cls T.cl T.ncl))) := fun k' _ => Iff.rfl
  have HP : Hid (∀ k' , k' < T.nck → ¬ CellOK T k' → ¬ ((∀ k, k < T.nck → CellOK T k) ∧ (T.nck = 0 ∨ T.ck (T.nck - 1) ≠ -1))) := fun k' h1 h2 h3 => h2 (h3.1 k' h1)
  generalize hPP : ((∀ k, k < T.nck → CellOK T k) ∧ (T.nck = 0 ∨ T.ck (T.nck - 1) ≠ -1)) = PP at *
  have HPP : Hid (((∀ k, k < T.nck → CellOK T k) ∧ (T.nck = 0 ∨ T.ck (T.nck - 1) ≠ -1)) = PP) := hPP
  clear hPP
  generalize hCO : CellOK T = CO at *
  clear hCO
  obtain ⟨rules, cl, ncl, lb, nlb, bs, nbs, df, ndf, ck, nck, nx, nnx⟩ := T
  simp only at *
  subst e3 e6
  obtain ⟨d0, d1, d2, d3, d4, d5, d6⟩ := h
  have HI3 : Hid (IL A.a3 bs nbs w) := hI.l3
  have HI5 : Hid (IL A.a5 ck nnx w) := hI.l5
  have HI6 : Hid (IL A.a6 nx nnx w) := hI.l6
  have HB3 : Hid (∀ i, i < nbs → 0 ≤ bs i ∧ bs i ≤ nnx) := hb3
  clear hI hb3
  simp only at *
  generalize cls cl ncl = c at *
  obtain ⟨a1, c1, a2, c2, a3, c3, a4, c4, a5, c5, a6, c6⟩ := A
  simp only at *
  go_enter Try.func127, Try.ntmps127
  go_wp2_with fail
  go_loop [6, 21] (fun la i => ∃ j : Nat, j ≤ nnx ∧ i = .int .i64 j ∧ la = .int .i64 (if j = 0 then -1 else ck (j - 1)) ∧ Hid (∀ i, i < j → CO i)) (fun _ i => nnx - (intOf i).toNat)
  case atStart => exact ⟨0, by omega, rfl, rfl, fun i hi => by omega⟩
  case round =>
    obtain ⟨j, hj, rfl, rfl, HJ⟩ := hrel
    generalize hla : (if j = 0 then -1 else ck (j - 1)) = la
    have Hla : Hid ((if j = 0 then -1 else ck (j - 1)) = la) := hla
    clear hla
    by_cases hjl : j < nnx
    · have hjl' : (j : Int) < (nnx : Int) := by omega
      obtain ⟨b5, o5, rfl, g5⟩ := HI5.out j hjl
      obtain ⟨b6, o6, rfl, g6⟩ := HI6.out j hjl
      have HN : Hid (¬ CO j → ¬ PP) := HP.out j hjl
      have HJ2 : Hid (CO j → ∀ i, i < j + 1 → CO i) := fun h i hi' => by
        by_cases e : i = j
        · subst e; exact h
        · exact HJ.out i (by omega)
      have Hnext : Hid ((if j + 1 = 0 then -1 else ck (j + 1 - 1)) = ck j) := by show _ = _; simp
      have HE := HCE.out j hjl
      clear Hla
      by_cases hx : ck j = -1
      · by_cases hy : nx j = -1
        · have HJ3 : Hid (∀ i, i < j + 1 → CO i) := HJ2.out (HE.2 (Or.inl ⟨hx, hy⟩))
          have Hn2 : Hid ((if j + 1 = 0 then -1 else ck (j + 1 - 1)) = -1) := by show _ = _; rw [Hnext.out, hx]
          rw [hx] at g5
          rw [hy] at g6
          clear HE HJ2 HN hx hy
          go_wp2_with fail
          go_round
          case rel => exact ⟨j + 1, by omega, by go_num, by rw [Hn2.out], HJ3.out⟩
          case measure => simp [intOf]; omega
        · have HN2 : Hid (¬ PP) := HN.out (fun h => by have := HE.1 h; omega)
          have q1 : (nx j == -1) = false := by simpa using hy
          rw [hx] at g5
          clear HE HJ2 HN hx hy
          go_wp2_with fail
          go_ret
          exact BPost.f HN2.out
      have q1 : (ck j == -1) = false := by simpa using hx
      by_cases h1 : ck j < 0
      · have HN2 : Hid (¬ PP) := HN.out (fun h => by have := HE.1 h; omega)
        clear HE HJ2 HN hx
        go_wp2_with fail
        go_ret
        exact BPost.f HN2.out
      by_cases h2 : (nbs : Int) ≤ ck j
      · have HN2 : Hid (¬ PP) := HN.out (fun h => by have := HE.1 h; omega)
        clear HE HJ2 HN hx
        go_wp2_with fail
        go_ret
        exact BPost.f HN2.out
      obtain ⟨m, hm⟩ := Int.eq_ofNat_of_zero_le (show 0 ≤ ck j by omega)
      have Hn2 : Hid ((if j + 1 = 0 then -1 else ck (j + 1 - 1)) = (m : Int)) := by show _ = _; rw [Hnext.out, hm]
      rw [hm] at g5 h1 h2 q1 HE
      simp only [Int.toNat_natCast] at HE
      have hmk : m < nbs := by omega
      obtain ⟨b7, o7, rfl, g7⟩ := HI3.out m hmk
      have hbs := HB3.out m hmk
      have hmk' : (m : Int) < (nbs : Int) := by omega
      clear hx hm Hnext
      generalize bs m = z at *
      generalize nx j = y at *
      by_cases h5 : y < -1
      · have HN2 : Hid (¬ PP) := HN.out (fun h => by have := HE.1 h; omega)
        clear HE HJ2 HN
        go_wp2_with fail
        go_ret
        exact BPost.f HN2.out
      by_cases h6 : (nbs : Int) ≤ y
      · have HN2 : Hid (¬ PP) := HN.out (fun h => by have := HE.1 h; omega)
        clear HE HJ2 HN
        go_wp2_with fail
        go_ret
        exact BPost.f HN2.out
      by_cases h3 : (j : Int) - z < 0
      · have HN2 : Hid (¬ PP) := HN.out (fun h => by have := HE.1 h; omega)
        clear HE HJ2 HN
        go_wp2_with fail
        go_ret
        exact BPost.f HN2.out
      by_cases h4 : (c : Int) ≤ (j : Int) - z
      · have HN2 : Hid (¬ PP) := HN.out (fun h => by have := HE.1 h; omega)
        clear HE HJ2 HN
        go_wp2_with fail
        go_ret
        exact BPost.f HN2.out
      have HJ3 : Hid (∀ i, i < j + 1 → CO i) := HJ2.out (HE.2 (by omega))
      clear HE HJ2 HN
      go_wp2_with fail
      go_round
      case rel => exact ⟨j + 1, by omega, by go_num, by rw [Hn2.out], HJ3.out⟩
      case measure => simp [intOf]; omega
    · have hge : ¬ (j : Int) < (nnx : Int) := by omega
      have hjn : j = nnx := by omega
      subst hjn
      clear HCE HP
      by_cases hj0 : j = 0
      · subst hj0
        have HT : Hid PP := by show PP; rw [← HPP.out]; exact ⟨HJ.out, Or.inl rfl⟩
        go_wp2_with fail
        go_ret
        exact BPost.t HT.out
      · have q0 : ((j : Int) == 0) = false := beq_eq_false_iff_ne.2 (by omega)
        have HL : Hid (la = ck (j - 1)) := by show _ = _; rw [← Hla.out, if_neg hj0]
        by_cases hl : la = -1
        · have HN2 : Hid (¬ PP) := by
            show ¬ PP
            rw [← HPP.out]
            intro h
            rcases h.2 with h2 | h2
            · exact hj0 h2
            · exact h2 (by rw [← HL.out]; exact hl)
          subst hl
          clear hj0 Hla HL
          go_wp2_with fail
          go_ret
          exact BPost.f HN2.out
        · have HT : Hid PP := by show PP; rw [← HPP.out]; exact ⟨HJ.out, Or.inr (by rw [← HL.out]; exact hl)⟩
          have q1 : (la == -1) = false := by simpa using hl
          have q2 : (la != -1) = true := by simpa using hl
          clear hj0 Hla HL hl
          go_wp2_with fail
          go_ret
          exact BPost.t HT.out

theorem IL.heap {ad : Option Addr} {f : Nat → Int} {n : Nat} {w w' : World} (h : IL ad f n w) (hw : w'.heap = w.heap) : IL ad f n w' := fun i hi => by
  obtain ⟨b, off, h1, h2⟩ := h i hi
  exact ⟨b, off, h1, by rw [World.cell?_of_block (w := w) (a := ⟨b, off + i, none⟩) (by rw [hw])]; exact h2⟩
theorem TbIn.heap {T : Tb} {A : TbA} {w w' : World} (h : TbIn T A w) (hw : w'.heap = w.heap) : TbIn T A w' :=
  ⟨h.l1.heap hw, h.l2.heap hw, h.l3.heap hw, h.l4.heap hw, h.l5.heap hw, h.l6.heap hw⟩
theorem TbAt.heap {b : Nat} {T : Tb} {A : TbA} {w w' : World} (h : TbAt b T A w) (hw : w'.heap = w.heap) : TbAt b T A w' := by
  have e : ∀ k, w'.cell? ⟨b, k, none⟩ = w.cell? ⟨b, k, none⟩ := fun k => World.cell?_of_block (w := w) (a := ⟨b, k, none⟩) (by rw [hw])
  exact ⟨by rw [e]; exact h.c0, by rw [e]; exact h.c1, by rw [e]; exact h.c2, by rw [e]; exact h.c3, by rw [e]; exact h.c4, by rw [e]; exact h.c5, by rw [e]; exact h.c6⟩
theorem dec_calls (f : FuncId) (args : Array Value) (P : Prop) (w : World) (h : ∀ w', w'.heap = w.heap → Calls Try.prog f args w' (BPost P w')) :
    ∃ b, (b = true ↔ P) ∧ ∀ w', w'.heap = w.heap → Calls Try.prog f args w' fun e w'' => e = .returned (.bool b) ∧ w'' = w' := by
  by_cases hP : P
  · refine ⟨true, by simpa using hP, fun w' hw => (h w' hw).mono ?_⟩
    rintro e w2 ⟨b, rfl, hb, rfl⟩
    have : b = true := hb.2 hP
    subst this
    exact ⟨rfl, rfl⟩
  · refine ⟨false, by simpa using hP, fun w' hw => (h w' hw).mono ?_⟩
    rintro e w2 ⟨b, rfl, hb, rfl⟩
    have : b = false := by
      cases b
      · rfl
      · exact absurd (hb.1 rfl) hP
    subst this
    exact ⟨rfl, rfl⟩

set_option maxRecDepth 100000 in
set_option maxHeartbeats 2000000 in
theorem tabSound_any (b : Nat) (T : Tb) (A : TbA) (w : World) (hs : TbSz T) (h : TbAt b T A w) (hI : TbIn T A w) :
    Calls Try.prog 89 #[.pointer (some ⟨b, 0, none⟩)] w (BPostB (Snd T) w) := by
  have m1 : T.ncl ≤ maxLen := by have := hs.s1; unfold maxLen; omega
  have m2 : T.nlb ≤ maxLen := by have := hs.s2; unfold maxLen; omega
  have m3 : T.nbs ≤ maxLen := by have := hs.s3; unfold maxLen; omega
  have m4 : T.ndf ≤ maxLen := by have := hs.s4; unfold maxLen; omega
  obtain ⟨p1, k1, f1⟩ := dec_calls 123 #[.int .i64 T.rules, .slice A.a1 T.ncl A.c1, .slice A.a2 T.nlb A.c2] _ w (fun w' hw => tabHead_any _ _ _ _ _ _ _ _ _ w' m1 m2 (hI.l1.heap hw) (hI.l2.heap hw))
  obtain ⟨p2, k2, f2⟩ := dec_calls 124 #[.pointer (some ⟨b, 0, none⟩)] _ w (fun w' hw => soundLengths_any b T A w' hs (h.heap hw))
  obtain ⟨p3, k3, f3⟩ := dec_calls 125 #[.slice A.a3 T.nbs A.c3, .int .i64 0, .int .i64 T.nck] _ w (fun w' hw => tabWithin_any _ _ _ _ _ _ w' m3 (hI.l3.heap hw))
  obtain ⟨p4, k4, f4⟩ := dec_calls 126 #[.slice A.a4 T.ndf A.c4] _ w (fun w' hw => soundDefs_any _ _ _ _ w' m4 (hI.l4.heap hw))
  have F1 : Hid (∀ w', w'.heap = w.heap → Calls Try.prog 123 #[.int .i64 T.rules, .slice A.a1 T.ncl A.c1, .slice A.a2 T.nlb A.c2] w' fun e w'' => e = .returned (.bool p1) ∧ w'' = w') := f1
  have F2 : Hid (∀ w', w'.heap = w.heap → Calls Try.prog 124 #[.pointer (some ⟨b, 0, none⟩)] w' fun e w'' => e = .returned (.bool p2) ∧ w'' = w') := f2
  have F3 : Hid (∀ w', w'.heap = w.heap → Calls Try.prog 125 #[.slice A.a3 T.nbs A.c3, .int .i64 0, .int .i64 T.nck] w' fun e w'' => e = .returned (.bool p3) ∧ w'' = w') := f3
  have F4 : Hid (∀ w', w'.heap = w.heap → Calls Try.prog 126 #[.slice A.a4 T.ndf A.c4] w' fun e w'' => e = .returned (.bool p4) ∧ w'' = w') := f4
  have F5 : Hid (∀ w', w'.heap = w.heap → Calls Try.prog 91 #[.slice A.a1 T.ncl A.c1] w' fun e w'' => e = .returned (.int .i64 (cls T.cl T.ncl)) ∧ w'' = w') := fun w' hw => tabClasses_any _ _ _ _ _ m1 (hI.l1.heap hw)
  have F6 : Hid (∀ w', w'.heap = w.heap → T.nbs = T.nlb → T.nnx = T.nck → T.nck ≤ 24576 → (∀ i, i < T.nlb → 0 ≤ T.bs i ∧ T.bs i ≤ T.nck) → Calls Try.prog 127 #[.pointer (some ⟨b, 0, none⟩), .int .i64 (cls T.cl T.ncl)] w' (BPost ((∀ k, k < T.nck → CellOK T k) ∧ (T.nck = 0 ∨ T.ck (T.nck - 1) ≠ -1)) w')) := fun w' hw e3 e6 e5 hb => soundCells_any b T A _ hs (h.heap hw) (hI.heap hw) e3 e6 e5 hb
  have K1 : Hid (p1 = true ↔ Hd T.rules T.cl T.ncl T.lb T.nlb) := k1
  have K2 : Hid (p2 = true ↔ (T.nbs = T.nlb ∧ T.ndf = T.nlb ∧ T.nnx = T.nck ∧ T.nck ≤ 24576)) := k2
  have K3 : Hid (p3 = true ↔ ∀ i, i < T.nbs → 0 ≤ T.bs i ∧ T.bs i ≤ T.nck) := k3
  have K4 : Hid (p4 = true ↔ ∀ i : Nat, i < T.ndf → -1 ≤ T.df i ∧ T.df i < i) := k4
  have H0 : Hid (TbAt b T A w) := h
  obtain ⟨d0, d1, d2, d3, d4, d5, d6⟩ := h
  have N1 : Hid (Snd T → p1 = true) := fun h => k1.2 h.hd
  have N2 : Hid (Snd T → p2 = true) := fun h => k2.2 ⟨h.e3, h.e4, h.e6, h.e5⟩
  have N3 : Hid (Snd T → p3 = true) := fun h => k3.2 (fun i hi => h.b3 i (by rw [← h.e3]; exact hi))
  have N4 : Hid (Snd T → p4 = true) := fun h => k4.2 (fun i hi => h.b4 i (by rw [← h.e4]; exact hi))
  clear hI f1 f2 f3 f4 k1 k2 k3 k4 m1 m2 m3 m4 hs
  generalize cls T.cl T.ncl = c at *
  go_enter Try.func89, Try.ntmps89
  go_wp2_with fail
  go_quiet ((go_at_call 123; exact Calls.quiet_of_same (F1.out _ rfl)))
  have hW1 : Below w.heap.size w (w.drewN nq) := bel_drewN _ _ _
  have HW1 : Hid ((w.drewN nq).heap = w.heap) := rfl
  have H1' : TbAt b T A (w.drewN nq) := H0.out.heap rfl
  generalize w.drewN nq = w1 at *
  clear d0 d1 d2 d3 d4 d5 d6
  obtain ⟨d0, d1, d2, d3, d4, d5, d6⟩ := H1'
  cases p1
  · have HN2 : Hid (¬ Snd T) := fun h => by have := N1.out h; cases this
    go_wp2_with fail
    go_ret
    exact BPostB.f HN2.out hW1
  have HQ1 : Hid (Hd T.rules T.cl T.ncl T.lb T.nlb) := K1.out.1 rfl
  clear K1 N1
  go_wp2_with fail
  refine Calls.mono (F2.out _ HW1.out) ?_
  rintro e w' ⟨rfl, rfl⟩
  cases p2
  · have HN2 : Hid (¬ Snd T) := fun h => by have := N2.out h; cases this
    go_wp2_with fail
    go_ret
    exact BPostB.f HN2.out hW1
  have q2 := K2.out.1 rfl
  have HQ2 : Hid (T.nbs = T.nlb ∧ T.ndf = T.nlb ∧ T.nnx = T.nck ∧ T.nck ≤ 24576) := q2
  have K3' : Hid (p3 = true → ∀ i, i < T.nlb → 0 ≤ T.bs i ∧ T.bs i ≤ T.nck) := fun h i hi => K3.out.1 h i (by rw [q2.1]; exact hi)
  have K4' : Hid (p4 = true → ∀ i : Nat, i < T.nlb → -1 ≤ T.df i ∧ T.df i < i) := fun h i hi => K4.out.1 h i (by rw [q2.2.1]; exact hi)
  clear K2 N2 q2 K3 K4
  go_wp2_with fail
  go_quiet ((go_at_call 125; refine Calls.quiet_of_same (F3.out _ ?_); exact HW1.out))
  cases p3
  · have HN2 : Hid (¬ Snd T) := fun h => by have := N3.out h; cases this
    go_wp2_with fail
    go_ret
    exact BPostB.f HN2.out (hW1.trans (bel_drewN _ _ _))
  have HQ3 : Hid (∀ i, i < T.nlb → 0 ≤ T.bs i ∧ T.bs i ≤ T.nck) := K3'.out rfl
  clear K3' N3
  go_wp2_with fail
  refine Calls.mono (F4.out _ ?hh) ?_
  case hh => exact HW1.out
  rintro e w' ⟨rfl, rfl⟩
  cases p4
  · have HN2 : Hid (¬ Snd T) := fun h => by have := N4.out h; cases this
    go_wp2_with fail
    go_ret
    exact BPostB.f HN2.out (hW1.trans (bel_drewN _ _ _))
  have HQ4 : Hid (∀ i : Nat, i < T.nlb → -1 ≤ T.df i ∧ T.df i < i) := K4'.out rfl
  clear K4' N4
  go_wp2_with fail
  refine Calls.mono (F5.out _ ?hh) ?_
  case hh => exact HW1.out
  rintro e w' ⟨rfl, rfl⟩
  go_wp2_with fail
  refine Calls.mono (F6.out _ ?hh HQ2.out.1 HQ2.out.2.2.1 HQ2.out.2.2.2 HQ3.out) ?_
  case hh => exact HW1.out
  rintro e w' ⟨b6, rfl, hb6, rfl⟩
  have HB6 : Hid (b6 = true ↔ ((∀ k, k < T.nck → CellOK T k) ∧ (T.nck = 0 ∨ T.ck (T.nck - 1) ≠ -1))) := hb6
  clear hb6
  go_wp2_with fail
  go_ret
  refine ⟨b6, rfl, ?_, hW1.trans (bel_drewN _ _ _)⟩
  rw [HB6.out]
  exact ⟨fun h => ⟨HQ1.out, HQ2.out.1, HQ2.out.2.1, HQ2.out.2.2.1, HQ2.out.2.2.2, HQ3.out, HQ4.out, h.1, h.2⟩, fun h => ⟨h.cs, h.la⟩⟩
end Go.Proofs.Ytoaaklhpmhjhkaa
