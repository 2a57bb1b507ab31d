/-
  Packed tables are sound, and lead where the machine's rows say; munch.Pack.
-/
import Derived.Test.YtoaaklhpmhjhkaaPkG
import Derived.Test.YtoaaklhpmhjhkaaStA
namespace Go.Proofs.Ytoaaklhpmhjhkaa
open Go.RowKit
open Bm

theorem SndM.ncl {M : Mc} (h : SndM M) : M.ncl = 256 := by
  have hp := h.hd.2.2.1
  unfold cls at hp
  by_cases e : M.ncl = 256
  · exact e
  · rw [if_neg e] at hp; omega
theorem SndM.k1 {M : Mc} (h : SndM M) : 1 ≤ M.k ∧ M.k ≤ 256 := ⟨h.hd.2.2.1, cls_le _ _⟩
theorem clsTo_lt {f : Nat → Int} : ∀ {k n : Nat}, clsTo f k = some n → ∀ i, i < k → 0 ≤ f i ∧ f i < n
  | 0, _, _, i, hi => by omega
  | k + 1, n, h, i, hi => by
    rw [clsTo] at h
    rcases hc : clsTo f k with _ | m
    · rw [hc] at h; cases h
    · rw [hc] at h
      simp only at h
      have IH := clsTo_lt hc
      by_cases hb : f k < 0 ∨ (m : Int) < f k
      · rw [if_pos hb] at h; cases h
      · rw [if_neg hb] at h
        by_cases he : f k = m
        · rw [if_pos he] at h
          cases h
          by_cases e : i = k
          · subst e; omega
          · have := IH i (by omega); omega
        · rw [if_neg he] at h
          cases h
          by_cases e : i = k
          · subst e; omega
          · exact IH i (by omega)
theorem SndM.cl {M : Mc} (h : SndM M) (i : Nat) (hi : i < 256) : 0 ≤ M.cl i ∧ M.cl i < M.k := by
  have hp := h.hd.2.2.1
  have hk : M.k = (clsTo M.cl 256).getD 0 := by unfold Mc.k cls; rw [if_pos h.ncl]
  have hp2 : 0 < M.k := h.k1.1
  rcases hc : clsTo M.cl 256 with _ | m
  · rw [hc] at hk; simp at hk; omega
  · rw [hc] at hk
    simp at hk
    have := clsTo_lt hc i hi
    rw [hk]; exact this
theorem SndM.at_ {M : Mc} (h : SndM M) (s c : Nat) (hs : s < M.nlb) (hc : c < M.k) : -1 ≤ M.nx (s * M.k + c) ∧ M.nx (s * M.k + c) < M.nlb := by
  have hb := h.b (s * M.k + c) (by
    rw [h.e]
    have : (s + 1) * M.k ≤ M.nlb * M.k := Nat.mul_le_mul_right _ hs
    rw [Nat.succ_mul] at this
    omega)
  omega
theorem packT_snd {M : Mc} (h : SndM M) : Snd (packT M) := by
  have I : Pk.Inv M.nx M.k M.nlb M.st := Pk.inv M.nx M.k M.nlb
  have hl := h.hd.2.1
  have hk := h.k1
  have hce : ∀ j, j < M.st.ck.length → M.st.ck.getD j 0 = M.st.ck.getD j (-1) := fun j hj => getD_dflt _ _ _ _ hj
  have hne : ∀ j, j < M.st.ck.length → M.st.nt.getD j 0 = M.st.nt.getD j (-1) := fun j hj => getD_dflt _ _ _ _ (by rw [← I.l1]; exact hj)
  refine ⟨h.hd, I.l3, I.l4, I.l1.symm, ?_, I.b3, fun i hi => ?_, fun j hj => ?_, ?_⟩
  · exact Nat.le_trans I.l2 (Nat.mul_le_mul hl.2 hk.2)
  · show -1 ≤ M.st.df.getD i 0 ∧ M.st.df.getD i 0 < i
    rw [I.b4 i hi]; exact Pk.df_bd _ _ _
  · unfold CellOK
    show (M.st.ck.getD j 0 = -1 ∧ M.st.nt.getD j 0 = -1) ∨ _
    have hj' : j < M.st.ck.length := hj
    rcases I.cs j hj' with ⟨h1, h2⟩ | ⟨i, c, h1, h2, h3, h4, h5⟩
    · left; rw [hce j hj', hne j hj']; exact ⟨h1, h2⟩
    · right
      have e1 : (packT M).ck j = i := by show M.st.ck.getD j 0 = _; rw [hce j hj', h3]
      have e2 : (packT M).nx j = M.nx (i * M.k + c) := by show M.st.nt.getD j 0 = _; rw [hne j hj', h5, Pk.ld_nat]
      have e3 : (packT M).bs i = M.st.bs.getD i 0 := rfl
      have e4 : (packT M).nlb = M.nlb := rfl
      have e5 : cls (packT M).cl (packT M).ncl = M.k := rfl
      have := h.at_ i c h1 h2
      rw [e1, e2, e4, e5, Int.toNat_natCast, e3]
      omega
  · show M.st.ck.length = 0 ∨ M.st.ck.getD (M.st.ck.length - 1) 0 ≠ -1
    rcases I.la with h0 | h0
    · exact Or.inl h0
    · by_cases e : M.st.ck.length = 0
      · exact Or.inl e
      · right; rw [hce _ (by omega)]; exact h0
theorem packT_lead {M : Mc} (h : SndM M) (c : Nat) (hc : c < M.k) : ∀ (u s : Nat), s < M.nlb → s < u → ldF (packT M) u (s : Int) (c : Int) = M.nx (s * M.k + c)
  | 0, s, _, hu => by omega
  | u + 1, s, hs, hu => by
    have I : Pk.Inv M.nx M.k M.nlb M.st := Pk.inv M.nx M.k M.nlb
    have hl := Pk.leads I s c hs hc
    have hb := I.b3 s hs
    obtain ⟨k, hk⟩ : ∃ k : Nat, M.st.bs.getD s 0 + (c : Int) = (k : Int) := ⟨(M.st.bs.getD s 0 + (c : Int)).toNat, by omega⟩
    have hk2 : (packT M).bs s + (c : Int) = (k : Int) := hk
    rw [hk, Int.toNat_natCast] at hl
    by_cases hcnd : (k : Int) < (M.st.ck.length : Int) ∧ M.st.ck.getD k (-1) = (s : Int)
    · rw [if_pos hcnd] at hl
      rw [ldF_at hk2 (show k < M.st.ck.length by omega) (by show M.st.ck.getD k 0 = _; rw [getD_dflt _ _ 0 (-1) (by omega)]; exact hcnd.2)]
      show M.st.nt.getD k 0 = _
      rw [getD_dflt _ _ 0 (-1) (by rw [← I.l1]; omega), hl, Pk.ld_nat]
    · rw [if_neg hcnd] at hl
      rw [ldF_on hk2 (fun e => hcnd ⟨by have := e.1; have e2 : (packT M).nck = M.st.ck.length := rfl; omega, by
        have h1 := e.1
        have e2 : (packT M).nck = M.st.ck.length := rfl
        rw [← getD_dflt _ _ 0 (-1) (by omega)]; exact e.2⟩)]
      show ldF (packT M) u (M.st.df.getD s 0) c = _
      rw [I.b4 s hs] at hl ⊢
      have hd := Pk.df_bd M.nx M.k s
      rw [← Pk.ld_nat M.nx M.k s c, hl]
      by_cases e : Pk.df M.nx M.k s = -1
      · rw [e, ldF_none, Pk.ld_none]
      · obtain ⟨d, hd2⟩ := Int.eq_ofNat_of_zero_le (show 0 ≤ Pk.df M.nx M.k s by omega)
        rw [hd2, packT_lead h c hc u d (by omega) (by omega), Pk.ld_nat]
/-- Where a byte leads. -/
theorem packT_stp {M : Mc} (h : SndM M) (s b : Nat) (hs : s < M.nlb) (hb : b < 256) : stp (packT M) s b = M.nx (s * M.k + (M.cl b).toNat) := by
  have hl := h.hd.2.1
  have hc := h.cl b hb
  unfold stp
  have e4 : (packT M).nlb = M.nlb := rfl
  rw [if_neg (by rw [e4]; omega), Int.toNat_natCast]
  show ldF (packT M) 97 s (M.cl b) = _
  obtain ⟨c, hc2⟩ := Int.eq_ofNat_of_zero_le hc.1
  rw [hc2, Int.toNat_natCast]
  exact packT_lead h c (by omega) 97 s hs (by omega)
/-- Where the packed lists lie. -/
theorem PkL.tb {B : Nat} {M : Mc} {g1 g2 : Nat} {vb vd vc vn : Value} {W : World} (h : PkL B M g1 g2 vb vd vc vn W) : ∃ A : TbA, pkCells M g1 g2 vb vd vc vn = A.cells (packT M) ∧ TbIn (packT M) A W := by
  obtain ⟨a3, c3, h3, i3⟩ := h.b.il
  obtain ⟨a4, c4, h4, i4⟩ := h.d.il
  obtain ⟨a5, c5, h5, i5⟩ := h.c.il
  obtain ⟨a6, c6, h6, i6⟩ := h.n.il
  refine ⟨⟨some ⟨g1, 0, none⟩, M.ncl, some ⟨g2, 0, none⟩, M.nlb, a3, c3, a4, c4, a5, c5, a6, c6⟩, ?_, h.k1.il (Nat.le_refl _), h.k2.il (Nat.le_refl _), i3, i4, i5, i6⟩
  rw [h3, h4, h5, h6]; rfl
theorem packT_sz {M : Mc} (h : SndM M) : TbSz (packT M) := by
  have hS := packT_snd h
  have hl := h.hd.2.1
  have h1 := h.ncl
  have e1 : (packT M).ncl = M.ncl := rfl
  have e2 : (packT M).nlb = M.nlb := rfl
  have := hS.e3
  have := hS.e4
  have := hS.e5
  have := hS.e6
  exact ⟨by omega, by omega, by omega, by omega, by omega, by omega⟩

theorem PkL.keep {B : Nat} {M : Mc} {g1 g2 : Nat} {vb vd vc vn : Value} {W W' : World} (h : PkL B M g1 g2 vb vd vc vn W) (hk : ∀ q, B ≤ q → q < W.heap.size → W'.heap[q]? = W.heap[q]?) (hn1 : 0 < M.ncl) (hn2 : 0 < M.nlb) : PkL B M g1 g2 vb vd vc vn W' := by
  have kl : ∀ (u : Value) (l : List Int), OwnL B u l W → OwnL B u l W' := fun u l hu => hu.keep (fun k hk2 => hk k (hu.blk k hk2).1 (hu.blk k hk2).2)
  have o1 := h.o1
  have o2 := h.o2
  exact ⟨h.k1.block (hk _ o1 (h.k1.lt hn1)), h.k2.block (hk _ (by omega) (h.k2.lt hn2)), kl _ _ h.b, kl _ _ h.d, kl _ _ h.c, kl _ _ h.n, h.bd, h.bc, h.bn, h.dc, h.dn, h.cn, o1, o2, h.o3⟩
theorem PkL.mono {B B' : Nat} {M : Mc} {g1 g2 : Nat} {vb vd vc vn : Value} {W : World} (h : PkL B M g1 g2 vb vd vc vn W) (hb : B' ≤ B) : PkL B' M g1 g2 vb vd vc vn W :=
  ⟨h.k1, h.k2, h.b.mono hb, h.d.mono hb, h.c.mono hb, h.n.mono hb, h.bd, h.bc, h.bn, h.dc, h.dn, h.cn, Nat.le_trans hb h.o1, h.o2, h.o3⟩
theorem PkL.one {B : Nat} {M : Mc} {g1 g2 : Nat} {vb vd vc vn : Value} {W : World} (h : PkL B M g1 g2 vb vd vc vn W) : (pkCells M g1 g2 vb vd vc vn).all (·.oneCell') = true := by
  unfold pkCells
  refine all_oneCell_toArray (fun v hv => ?_)
  simp only [List.mem_cons, List.not_mem_nil, or_false] at hv
  rcases hv with rfl | rfl | rfl | rfl | rfl | rfl | rfl
  · rfl
  · rfl
  · rfl
  · exact h.b.one
  · exact h.d.one
  · exact h.c.one
  · exact h.n.one

set_option maxRecDepth 100000 in
set_option maxHeartbeats 1000000 in
theorem munchPack_any (M : Mc) (A : McA) (w : World) (hs : McSz M) (hI : McIn M A w) : Calls Try.prog 51 #[.agg (A.cells M)] w (PackPost M w) := by
  have hz := zero_tables
  obtain ⟨W0, hW0⟩ : ∃ W, W = w.alloc (.cells (A.cells M) 49) := ⟨_, rfl⟩
  obtain ⟨W1, hW1⟩ : ∃ W, W = W0.alloc (.cells #[.int .i64 0, .slice none 0 0, .slice none 0 0, .slice none 0 0, .slice none 0 0, .slice none 0 0, .slice none 0 0] 26) := ⟨_, rfl⟩
  have x0 : Below w.heap.size w W0 := by rw [hW0]; exact bel_box _ _
  have x1 : Below W0.heap.size W0 W1 := by rw [hW1]; exact bel_box _ _
  have z0 : W0.heap.size = w.heap.size + 1 := by rw [hW0]; simp
  have z1 : W1.heap.size = W0.heap.size + 1 := by rw [hW1]; simp
  have hT1 : W1.there W0.heap.size 0 7 := by rw [hW1]; exact zeroT_there W0 _
  have x2 := x0.trans (x1.mono x0.size)
  have hA1 : McAt w.heap.size M A W1 := by
    have h : McAt w.heap.size M A W0 := by rw [hW0]; exact McAt.boxed M A w _
    exact h.below x1
  have HE : Hid (Calls Try.prog 76 #[.pointer (some ⟨w.heap.size, 0, none⟩)] W1 (PackPost M W1)) := packTables_any w.heap.size M A _ hs hA1 (hI.below x2)
  rw [z0] at hT1
  rw [hW0] at hW1
  unfold McA.cells at hW1 ⊢
  have HX : Hid (Below w.heap.size w W1) := x2
  have Hz : Hid (W1.heap.size = w.heap.size + 2) := by show _ = _; rw [z1, z0]
  clear x0 x1 z0 z1 hW0 hA1 hI hs x2
  go_enter Try.func51, Try.ntmps51
  go_wp2_with fail
  rw [← hW1]
  clear hW1
  refine HE.out.mono ?_
  rintro e w1 ⟨hB1, h⟩
  have hT2 := there_below hT1 (by omega) hB1
  have HBw : Hid (Below w.heap.size w w1) := HX.out.trans (hB1.mono HX.out.size)
  rcases h with ⟨hS, rfl⟩ | ⟨hS, g1, g2, vb, vd, vc, vn, rfl, hP⟩
  · obtain ⟨W9, hW9⟩ : ∃ W, W = w1.setCells (w.heap.size + 1) 0 zeroT.toList := ⟨_, rfl⟩
    have hl9 : (loadVar 26 ⟨w.heap.size + 1, 0, none⟩).run Try.prog W9 = .ok (.agg zeroT) W9 := by
      rw [hW9]; exact run_loadVar_mid (P := Try.prog) _ (w.heap.size + 1) 0 26 zeroT.toList _ (World.rangeAt_setCells_same w1 (w.heap.size + 1) 0 zeroT.toList hT2) Try.underlying26 rfl info_tables
    have hp9 : PackPost M w (.returned (.tuple #[.agg zeroT, .int .i64 10])) W9 := by
      refine ⟨?_, Or.inl ⟨hS, rfl⟩⟩
      rw [hW9]
      exact HBw.out.grown (setCells_grown (w.heap.size + 1) zeroT.toList 0 w1) HBw.out.size (fun q hq => by cases hq; exact Nat.le_succ _)
    have HP9 : Hid (PackPost M w (.returned (.tuple #[.agg zeroT, .int .i64 10])) W9) := hp9
    have HW9 : Hid (W9 = w1.setCells (w.heap.size + 1) 0 zeroT.toList) := hW9
    have HL9 : Hid ((loadVar 26 ⟨w.heap.size + 1, 0, none⟩).run Try.prog W9 = .ok (.agg zeroT) W9) := hl9
    clear hp9 hW9 hl9
    go_wp2_with (first | (refine wpList_store_mid rfl 26 _ _ rfl (w.heap.size + 1) 0 zeroT rfl rfl hT2 info_tables (by simp [zeroT, Value.oneCell']) ?_; rw [← HW9.out]))
    refine bodyPost_ret (v := .tuple #[.agg zeroT, .int .i64 10]) (eResults_load2 Try.results51 rfl HL9.out rfl) rfl HP9.out
  · have hone := hP.one
    obtain ⟨C, hC⟩ : ∃ C, C = pkCells M g1 g2 vb vd vc vn := ⟨_, rfl⟩
    have hCs : C.size = 7 := by rw [hC]; rfl
    rw [← hC] at hone ⊢
    obtain ⟨W9, hW9⟩ : ∃ W, W = w1.setCells (w.heap.size + 1) 0 C.toList := ⟨_, rfl⟩
    have hl9 : (loadVar 26 ⟨w.heap.size + 1, 0, none⟩).run Try.prog W9 = .ok (.agg C) W9 := by
      rw [hW9]
      have := run_loadVar_mid (P := Try.prog) _ (w.heap.size + 1) 0 26 C.toList _ (World.rangeAt_setCells_same w1 (w.heap.size + 1) 0 C.toList (by rw [Array.length_toList, hCs]; exact hT2)) Try.underlying26 rfl (by rw [Array.length_toList, hCs]; exact info_tables)
      simpa using this
    have hg := setCells_grown (w.heap.size + 1) C.toList 0 w1
    rw [← hW9] at hg
    have hp9 : PackPost M w (.returned (.tuple #[.agg C, .int .i64 0])) W9 := by
      refine ⟨HBw.out.grown hg HBw.out.size (fun q hq => by cases hq; exact Nat.le_succ _), Or.inr ⟨hS, g1, g2, vb, vd, vc, vn, by rw [hC], ?_⟩⟩
      have hz2 := Hz.out
      refine (hP.keep (fun q hq1 hq2 => hg.block q hq2 (fun e => ?_)) (by rw [hS.ncl]; omega) (by have := hS.hd.2.1; omega)).mono HX.out.size
      have := Option.some.inj e
      omega
    have HP9 : Hid (PackPost M w (.returned (.tuple #[.agg C, .int .i64 0])) W9) := hp9
    have HW9 : Hid (W9 = w1.setCells (w.heap.size + 1) 0 C.toList) := hW9
    have HL9 : Hid ((loadVar 26 ⟨w.heap.size + 1, 0, none⟩).run Try.prog W9 = .ok (.agg C) W9) := hl9
    have hT3 : w1.there (w.heap.size + 1) 0 C.size := by rw [hCs]; exact hT2
    have hinf : (Try.prog.info? 26).map (·.size) = some C.size := by rw [hCs]; exact info_tables
    have HIf : Hid ((Try.prog.info? 26).map (·.size) = some C.size) := hinf
    have HOn : Hid (C.all (·.oneCell') = true) := hone
    have HT3 : Hid (w1.there (w.heap.size + 1) 0 C.size) := hT3
    clear hp9 hW9 hl9 hC hP hCs hg hT2 hT3 hinf hone
    go_wp2_with (first | (refine wpList_store_mid rfl 26 _ _ rfl (w.heap.size + 1) 0 C rfl rfl HT3.out HIf.out HOn.out ?_; rw [← HW9.out]))
    refine bodyPost_ret (v := .tuple #[.agg C, .int .i64 0]) (eResults_load2 Try.results51 rfl HL9.out rfl) rfl HP9.out
end Go.Proofs.Ytoaaklhpmhjhkaa
