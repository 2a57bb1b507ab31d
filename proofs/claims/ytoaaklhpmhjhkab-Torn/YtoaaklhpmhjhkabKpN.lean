/-
  munchkeep's Torn.
-/
import Derived.Test.YtoaaklhpmhjhkabKpC
import Derived.Test.YtoaaklhpmhjhkabKpE
import Derived.Test.YtoaaklhpmhjhkabKpM
namespace Go.Proofs.Ytoaaklhpmhjhkab
open Go.RowKit

theorem bytes_eta (s : ByteArray) : s = ⟨s.data.toList.toArray⟩ := by cases s; simp
theorem bytes_inj2 {a b : ByteArray} (h : a.toList = b.toList) : a = b := by
  rw [ByteArray.toList_eq, ByteArray.toList_eq] at h
  cases a; cases b
  simp only at h
  congr 1
  exact Array.toList_inj.1 h
/-- Bits turned over: it is the same file, or none. -/
theorem torn_turn {F : ByteArray} (h : Good F) {l : List UInt8} {a : Nat} (ht : Trn F.data.toList l a 32) (h' : Good ⟨l.toArray⟩) : (⟨l.toArray⟩ : ByteArray) = F := by
  have z : F.size = (⟨l.toArray⟩ : ByteArray).size := by
    have h1 := ht.1
    rw [Array.length_toList] at h1
    show F.data.size = l.toArray.size
    rw [List.size_toArray]; exact h1.symm
  exact (burst z h.2.2.1 h'.2.2.1 a (fun i hi hn => ht.2 i (by simpa using hi) (by simpa using hn))).symm
theorem torn_cut {F : ByteArray} (h : Good F) {n : Nat} (hn : n < F.size) : ¬ Good (F.extract 0 n) := by
  intro h'
  have e : F.extract 0 n = ⟨(F.data.toList.take n).toArray⟩ := by
    apply ByteArray.ext
    rw [ByteArray.data_extract]
    apply Array.toList_inj.1
    simp
  rw [e] at h'
  have h2 : Good ⟨(F.data.toList.take n ++ F.data.toList.drop n).toArray⟩ := by rw [List.take_append_drop, ← bytes_eta]; exact h
  have := good_cut h2 h'
  have := congrArg List.length this
  simp at this
  have e2 : F.data.size = F.size := rfl
  omega
theorem torn_more {F m : ByteArray} (h : Good F) (hm : m.size ≠ 0) : ¬ Good (F ++ m) := by
  intro h'
  have e : F ++ m = ⟨(F.data.toList ++ m.data.toList).toArray⟩ := by
    apply ByteArray.ext
    simp
  rw [e] at h'
  have h2 : Good ⟨F.data.toList.toArray⟩ := by rw [← bytes_eta]; exact h
  have h3 := congrArg List.length (good_cut h' h2)
  rw [Array.length_toList, List.length_nil] at h3
  exact hm h3

set_option maxRecDepth 100000 in
set_option maxHeartbeats 8000000 in
theorem Torn_any (rules : Int) (s : ByteArray) (la : Option Addr) (nl lc : Nat) (lf : Nat → Int) (na : Option Addr) (nn nc : Nat) (nf : Nat → Int) (at_ mask sz : Int) (mo : ByteArray) (w : World) (hr : InI rules) (hs : s.size ≤ 140737488355328)
    (hl : IL la lf nl w) (hlr : ∀ i, i < nl → InI (lf i)) (hnl : nl ≤ 17592186044416) (hn : IL na nf nn w) (hnr : ∀ i, i < nn → InI (nf i)) (hnn : nn ≤ 17592186044416) (hat : InI at_) (hsz : InI sz) (hmo : mo.size ≤ 140737488355328) :
    Calls Try.prog 4 #[.int .i64 rules, .string s, .slice la nl lc, .slice na nn nc, .int .i64 at_, .int .i64 mask, .int .i64 sz, .string mo] w fun e w' => e = .returned (.bool true) ∧ Below w.heap.size w w' := by
  have HM : Hid (Calls Try.prog 8 #[.int .i64 rules, .string s, .slice la nl lc, .slice na nn nc] w (MkPost w)) := keepMachine_any rules s la nl lc lf na nn nc nf w hr hs hl hlr hnl hn hnr hnn
  have Hat : Hid (InI at_) := hat
  have Hsz : Hid (InI sz) := hsz
  clear hr hs hl hlr hnl hn hnr hnn hat hsz
  go_enter Try.func4, Try.ntmps4
  go_wp2_with fail
  refine HM.out.mono ?_
  rintro e w1 ⟨M, A, hS, rfl, hI, hB1⟩
  clear HM
  have HS : Hid (SndM M) := hS
  -- the machine, boxed
  obtain ⟨W2, hW2⟩ : ∃ W, W = w1.alloc (.cells (A.cells M) 24) := ⟨_, rfl⟩
  have x2 : Below w1.heap.size w1 W2 := by rw [hW2]; exact bel_box _ _
  have a2 : McAt w1.heap.size M A W2 := by rw [hW2]; exact McAt.boxed M A w1 _
  have i2 := hI.below x2
  have b2 := hB1.trans (x2.mono hB1.size)
  have HF : Hid (Calls Try.prog 9 #[.agg (A.cells M)] W2 (FiledPost M W2)) := filed_any M A W2 hS i2
  obtain ⟨d0, d1, d2, d3⟩ := a2
  have HA2 : Hid (McAt w1.heap.size M A W2) := ⟨d0, d1, d2, d3⟩
  have HI2 : Hid (McIn M A W2) := i2
  have HB2 : Hid (Below w.heap.size w W2) := b2
  unfold McA.cells at hW2 HF ⊢
  rw [hW2] at d0 d1 d2 d3
  clear hI hB1 x2 i2 b2 hS
  go_wp2_with fail
  rw [← hW2]
  clear hW2 d0 d1 d2 d3
  refine HF.out.mono ?_
  rintro e w3 ⟨g1, g2, vb, vd, vc, vn, rfl, hP, hB3⟩
  clear HF
  obtain ⟨A3, hA3, _⟩ := hP.tb
  rw [hA3]
  clear hP hA3 g1 g2 vb vd vc vn
  obtain ⟨W4, hW4⟩ : ∃ W, W = w3.alloc (.cells (A3.cells (packT M)) 28) := ⟨_, rfl⟩
  have x4 : Below w3.heap.size w3 W4 := by rw [hW4]; exact bel_box _ _
  have b4 := hB3.trans (x4.mono hB3.size)
  have HL : Hid (Calls Try.prog 10 #[.string (mfile M)] W4 (LexPost (mfile M) W4)) := lexer_any (mfile M) W4 (mfile_of HS.out).good.small (mfile_of HS.out).good
  have HB4 : Hid (Below W2.heap.size W2 W4) := b4
  unfold TbA.cells at hW4 ⊢
  clear hB3 x4 b4
  have hG := (mfile_of HS.out).good
  have hfz : (mfile M).size ≤ 1000000 := by
    have hF := hG.2.1
    have h2 := hF.2.2
    have b6 := num_bd (mfile M) 6 1 (by omega)
    have b7 := num_bd (mfile M) 7 2 (by omega)
    have b9 := num_bd (mfile M) 9 1 (by omega)
    have p1 : (num (mfile M) 6 1).toNat * ((num (mfile M) 9 1).toNat + 2) ≤ 256 * 258 := Nat.mul_le_mul (by omega) (by omega)
    omega
  have hf10 := good_ten hG
  have HG : Hid (Good (mfile M)) := hG
  clear hG
  generalize mfile M = F at *
  have q1 : (F.toList == []) = false := by
    rw [beq_eq_false_iff_ne]
    intro h
    rw [ByteArray.toList_eq] at h
    have h3 := congrArg List.length h
    rw [Array.length_toList, List.length_nil] at h3
    have e2 : F.data.size = F.size := rfl
    omega
  go_wp2_with fail
  rw [← hW4]
  clear hW4 q1
  refine HL.out.mono ?_
  rintro e w5 ⟨b, A2, rfl, _, _, _, hB5⟩
  clear HL
  have b5 := HB4.out.trans (hB5.mono HB4.out.size)
  have HB5 : Hid (Below w.heap.size w w5) := HB2.out.trans (b5.mono HB2.out.size)
  clear hB5 b5 HB4 HA2 HI2 HB2
  have HP1 : Hid (Calls Try.prog 15 #[.int .i64 at_, .int .i64 (8 * (F.size : Int))] w5 fun e w' => e = .returned (.int .i64 (pickN at_ (8 * F.size))) ∧ w' = w5) := pick_any at_ (8 * F.size) w5 Hat.out (by omega) (by omega)
  have hp1 := pickN_lt at_ (n := 8 * F.size) (by omega)
  generalize pickN at_ (8 * F.size) = p at *
  have HTn : Hid (Calls Try.prog 14 #[.string F, .int .i64 p, .int .i64 mask] w5 fun e w' => ∃ l : List UInt8, e = .returned (.string ⟨l.toArray⟩) ∧ Trn F.data.toList l p 32 ∧ Below w5.heap.size w5 w') := turned_any F p mask w5 hfz (by omega)
  go_wp2_with fail
  refine HP1.out.mono ?_
  rintro e w5 ⟨rfl, rfl⟩
  clear HP1
  go_wp2_with fail
  refine HTn.out.mono ?_
  rintro e w6 ⟨l, rfl, hT, hB6⟩
  clear HTn
  obtain ⟨G, hGl⟩ : ∃ G : ByteArray, G = ⟨l.toArray⟩ := ⟨_, rfl⟩
  have hGz : G.size = F.size := by
    have h1 := hT.1
    rw [Array.length_toList] at h1
    rw [hGl]
    show l.toArray.size = F.data.size
    rw [List.size_toArray]; exact h1
  have HGd : Hid (Good G → G = F) := fun h => by rw [hGl] at h ⊢; exact torn_turn HG.out hT h
  rw [← hGl]
  clear hGl hT
  have HLd : Hid (∀ (Y : ByteArray) (w' : World), Y.size ≤ 281474976710656 → Calls Try.prog 16 #[.string Y] w' (LoadPost Y w')) := fun Y w' h => load_any Y w' h
  have HB6 : Hid (Below w.heap.size w w6) := HB5.out.trans (hB6.mono HB5.out.size)
  clear hB6
  go_wp2_with fail
  refine (HLd.out G _ (by omega)).mono ?_
  rintro e w7 ⟨hB7, h⟩
  have HB7 : Hid (Below w.heap.size w w7) := HB6.out.trans (hB7.mono HB6.out.size)
  clear hB7
  have HP2 : Hid (Calls Try.prog 15 #[.int .i64 sz, .int .i64 (F.size : Int)] w7 fun e w' => e = .returned (.int .i64 (pickN sz F.size)) ∧ w' = w7) := pick_any sz F.size w7 Hsz.out (by omega) (by omega)
  have hp2 := pickN_lt sz (n := F.size) (by omega)
  generalize pickN sz F.size = n2 at *
  have hn2 : (n2 : Int) ≤ (F.size : Int) := by omega
  have key : ∃ (ptr : Option Addr) (c : Int), e = .returned (.tuple #[.pointer ptr, .int .i64 c]) ∧ (((G.toList == F.toList) = true ∧ c = 0 ∧ ∃ bb, ptr = some ⟨bb, 0, none⟩) ∨ ((G.toList == F.toList) = false ∧ (c == 0) = false ∧ ptr = none)) := by
    rcases h with ⟨c, hc, rfl⟩ | ⟨hg, bb, _, rfl, _⟩
    · refine ⟨none, c, rfl, Or.inr ⟨?_, hc.ne.1, rfl⟩⟩
      rw [beq_eq_false_iff_ne]
      intro h
      rw [bytes_inj2 h] at hc
      exact HG.out.not hc
    · exact ⟨some ⟨bb, 0, none⟩, 0, rfl, Or.inl ⟨by rw [HGd.out hg]; simp, rfl, bb, rfl⟩⟩
  obtain ⟨ptr, c, rfl, hkey⟩ := key
  clear h HGd
  have HCt : Hid (¬ Good (F.extract 0 n2)) := torn_cut HG.out hp2
  have hcz : (F.extract 0 n2).size ≤ 1000000 := by rw [ByteArray.size_extract]; omega
  rcases hkey with ⟨k1, rfl, bb, rfl⟩ | ⟨k1, k2, rfl⟩
  all_goals (
    go_wp2_with fail
    refine HP2.out.mono ?_
    rintro e w7 ⟨rfl, rfl⟩
    clear k1
    go_wp2_with fail
    refine (HLd.out _ _ (by omega)).mono ?_
    rintro e w8 ⟨hB8, h⟩
    have HB8 : Hid (Below w.heap.size w w8) := HB7.out.trans (hB8.mono HB7.out.size)
    clear hB8
    rcases h with ⟨c8, hc8, rfl⟩ | ⟨hg, _⟩
    case inr => exact absurd hg HCt.out
    have k8 := hc8.ne.1
    clear hc8 HP2 HCt
    go_wp2_with fail
    refine (HLd.out _ _ ?hsz9).mono ?_
    case hsz9 => rw [ByteArray.size_append]; omega
    rintro e w9 ⟨hB9, h⟩
    have HB9 : Hid (Below w.heap.size w w9) := HB8.out.trans (hB9.mono HB8.out.size)
    clear hB9
    by_cases hm : mo.size = 0
    · have qm : (mo.toList == []) = true := by
        have : mo.toList = [] := by
          rw [ByteArray.toList_eq]; exact List.eq_nil_of_length_eq_zero (by rw [Array.length_toList]; exact hm)
        rw [this]; rfl
      have hFm : F ++ mo = F := by
        apply ByteArray.ext
        have : mo.data = #[] := Array.eq_empty_of_size_eq_zero hm
        simp [this]
      rw [hFm] at h
      rcases h with ⟨c9, hc9, _⟩ | ⟨_, b9, _, rfl, _⟩
      · exact absurd hc9 HG.out.not
      clear hFm hm
      go_wp2_with fail
      go_ret
      exact ⟨rfl, HB9.out⟩
    · have qm : (mo.toList == []) = false := by
        rw [beq_eq_false_iff_ne]
        intro h
        rw [ByteArray.toList_eq] at h
        have h3 := congrArg List.length h
        rw [Array.length_toList, List.length_nil] at h3
        exact hm h3
      rcases h with ⟨c9, hc9, rfl⟩ | ⟨hg, _⟩
      case inr => exact absurd hg (torn_more HG.out hm)
      have k9 := hc9.ne.1
      clear hc9 hm
      go_wp2_with fail
      go_ret
      exact ⟨rfl, HB9.out⟩)
end Go.Proofs.Ytoaaklhpmhjhkab
