/-
  Files; contract of the program's Encode.
-/
import Derived.Test.YtoaaklhpmhjhkaaEncE
import Derived.Test.YtoaaklhpmhjhkaaEncH
namespace Go.Proofs.Ytoaaklhpmhjhkaa
open Go.RowKit

/-- How many bytes a base takes. -/
def wideTo (f : Nat → Int) : Nat → Int
  | 0 => 1
  | k + 1 => if 255 < f k then 2 else wideTo f k
theorem wideTo_cases (f : Nat → Int) : ∀ k, wideTo f k = 1 ∨ wideTo f k = 2
  | 0 => Or.inl rfl
  | k + 1 => by rw [wideTo]; split; exact Or.inr rfl; exact wideTo_cases f k
theorem wideTo_two {f : Nat → Int} {k : Nat} (h : wideTo f k = 2) : ∀ d, wideTo f (k + d) = 2
  | 0 => h
  | d + 1 => by rw [← Nat.add_assoc, wideTo, wideTo_two h d]; split <;> rfl
/-- A file but for its sum; a file. -/
def bodyL (T : Tb) : List UInt8 :=
  [77, 85, 78, 49] ++ [byteOf T.rules, byteOf ((cls T.cl T.ncl : Int) - 1), byteOf T.nlb, byteOf ((T.nck : Int) / 256), byteOf T.nck, byteOf (wideTo T.bs T.nbs)] ++
    mapB T.cl T.ncl 0 ++ mapB T.lb T.nlb 1 ++ basesB T.bs T.nbs (wideTo T.bs T.nbs) ++ mapB T.df T.ndf 1 ++ cellsB T.ck T.nx T.nck
def fileL (T : Tb) : List UInt8 := bodyL T ++ sumL (bodyL T)
theorem cat_bytes (a b : List UInt8) : (⟨(a ++ b).toArray⟩ : ByteArray) = ⟨a.toArray⟩ ++ ⟨b.toArray⟩ := by
  apply ByteArray.ext
  simp
/-- What Encode leaves. -/
def EncPost (T : Tb) (w : World) (e : Ending) (w' : World) : Prop :=
  Below w.heap.size w w' ∧ ((Snd T ∧ e = .returned (.tuple #[.string ⟨(fileL T).toArray⟩, .int .i64 0])) ∨ (¬ Snd T ∧ e = .returned (.tuple #[.string ⟨#[]⟩, .int .i64 11])))

set_option maxHeartbeats 1000000 in
theorem widthOf_any (ad : Option Addr) (n cap : Nat) (f : Nat → Int) (w : World) (hn : n ≤ maxLen) (h : IL ad f n w) :
    Calls Try.prog 90 #[.slice ad n cap] w fun e w' => e = .returned (.int .i64 (wideTo f n)) ∧ w' = w := by
  unfold maxLen at hn
  have H : Hid (IL ad f n w) := h
  clear h
  go_enter Try.func90, Try.ntmps90
  go_wp2_with fail
  go_loop [7] (fun i => ∃ k : Nat, k ≤ n ∧ i = .int .i64 k ∧ Hid (wideTo f k = 1)) (fun i => n - (intOf i).toNat)
  case atStart => exact ⟨0, by omega, rfl, rfl⟩
  case round =>
    obtain ⟨k, hk, rfl, HK⟩ := hrel
    by_cases hlt : k < n
    · have hlt' : (k : Int) < (n : Int) := by omega
      obtain ⟨b, off, rfl, c1⟩ := H.out k hlt
      by_cases h1 : 255 < f k
      · have HW : Hid (wideTo f n = 2) := by
          have : wideTo f (k + 1) = 2 := by rw [wideTo, if_pos h1]
          have := wideTo_two this (n - (k + 1))
          rw [show k + 1 + (n - (k + 1)) = n by omega] at this; exact this
        go_wp2_with fail
        go_ret
        exact ⟨ret_int HW.out.symm, rfl⟩
      · have HW : Hid (wideTo f (k + 1) = 1) := by show _ = _; rw [wideTo, if_neg h1]; exact HK.out
        go_wp2_with fail
        go_round
        case rel => exact ⟨k + 1, by omega, by go_num, HW.out⟩
        case measure => simp [intOf]; omega
    · have hge : ¬ (k : Int) < (n : Int) := by omega
      have hkn : k = n := by omega
      subst hkn
      go_wp2_with fail
      go_ret
      exact ⟨ret_int HK.out.symm, rfl⟩
theorem Grows.magic (base : Nat) (w : World) (hb : base ≤ w.heap.size) : Grows base (.slice (some ⟨w.heap.size, 0, none⟩) 4 4) (bys [77, 85, 78, 49]) (w.alloc (.cells #[.int .u8 77, .int .u8 85, .int .u8 78, .int .u8 49] 5 (4, 5))) := by
  refine Or.inr ⟨w.heap.size, 4, rfl, hb, by simp, by simp [bys], fun j u hu => ?_, fun j hj => ?_⟩
  · rw [World.cell?_alloc_mark]
    simpa [bys] using hu
  · rw [World.cell?_alloc_mark]
    refine ⟨by rcases j with _ | _ | _ | _ | j <;> first | rfl | omega, ?_⟩
    have : (w.alloc (.cells #[.int .u8 77, .int .u8 85, .int .u8 78, .int .u8 49] 5 (4, 5))).heap[w.heap.size]? = some (.cells #[.int .u8 77, .int .u8 85, .int .u8 78, .int .u8 49] 5 (4, 5)) := heap_alloc_new w _
    generalize w.alloc (.cells #[.int .u8 77, .int .u8 85, .int .u8 78, .int .u8 49] 5 (4, 5)) = W at *
    simp [World.frozen?, this]; omega

theorem clsTo_range {f : Nat → Int} : ∀ {k n : Nat}, clsTo f k = some n → ∀ i, i < k → 0 ≤ f i ∧ f i < k
  | 0, _, _, i, hi => by omega
  | k + 1, n, h, i, hi => by
    rw [clsTo] at h
    rcases hc : clsTo f k with _ | m
    · rw [hc] at h; cases h
    · have hm := clsTo_le hc
      rw [hc] at h
      simp only at h
      split at h
      · cases h
      · rename_i hh
        by_cases e : i = k
        · subst e; omega
        · have := clsTo_range hc i (by omega); omega
theorem cls_range {f : Nat → Int} {n : Nat} (h : 0 < cls f n) (i : Nat) (hi : i < n) : 0 ≤ f i ∧ f i < 256 := by
  unfold cls at h
  split at h
  · rename_i h256
    rcases hc : clsTo f 256 with _ | m
    · rw [hc] at h; simp at h
    · exact clsTo_range hc i (by omega)
  · omega
theorem Wr.heap {b base : Nat} {l : List UInt8} {w w' : World} (h : Wr b base l w) (hw : w'.heap = w.heap) : Wr b base l w' := by
  obtain ⟨h0, h1, v, h2, h3⟩ := h
  refine ⟨h0, ?_, v, ?_, h3.block (by rw [hw]; exact Nat.le_refl _) (fun k _ _ => by rw [hw])⟩
  · rw [World.frozen?_of_block (w := w) (a := ⟨b, 0, none⟩) (by rw [hw])]; exact h1
  · rw [World.cell?_of_block (w := w) (a := ⟨b, 0, none⟩) (by rw [hw])]; exact h2

set_option maxRecDepth 100000 in
set_option maxHeartbeats 4000000 in
theorem codecEncode_any (b : Nat) (T : Tb) (A : TbA) (w : World) (hs : TbSz T) (h : TbAt b T A w) (hI : TbIn T A w) :
    Calls Try.prog 68 #[.pointer (some ⟨b, 0, none⟩)] w (EncPost T w) := by
  have HS : Hid (Calls Try.prog 89 #[.pointer (some ⟨b, 0, none⟩)] w (BPostB (Snd T) w)) := tabSound_any b T A w hs h hI
  have m1 : T.ncl ≤ maxLen := by have := hs.s1; unfold maxLen; omega
  have m3 : T.nbs ≤ maxLen := by have := hs.s3; unfold maxLen; omega
  have HI : Hid (∀ w', Below w.heap.size w w' → TbIn T A w') := fun w' hW => hI.below hW
  have HAt : Hid (∀ w', Below w.heap.size w w' → TbAt b T A w') := fun w' hW => h.below hW
  have hbl := h.lt
  clear hI h
  go_enter Try.func68, Try.ntmps68
  go_wp2_with fail
  refine HS.out.mono ?_
  rintro e w1 ⟨bb, rfl, hbb, hW1⟩
  clear HS
  cases bb
  · have HN : Hid (¬ Snd T) := fun h => by have := hbb.2 h; cases this
    clear hbb
    go_wp2_with fail
    go_ret2
    exact ⟨hW1, Or.inr ⟨HN.out, rfl⟩⟩
  have hS : Snd T := hbb.1 rfl
  clear hbb
  have HSn : Hid (Snd T) := hS
  have hc0 := hS.hd.2.2.1
  have hc1 := cls_le T.cl T.ncl
  have hr := hS.hd.1
  have hl := hS.hd.2.1
  have e3 := hS.e3
  have e4 := hS.e4
  have e6 := hS.e6
  have e5 := hS.e5
  have hncl : T.ncl = 256 := by
    rcases Nat.decEq T.ncl 256 with h | h
    · simp [cls, h] at hc0
    · exact h
  have F1 : Hid (Calls Try.prog 90 #[.slice A.a3 T.nbs A.c3] w1 fun e w' => e = .returned (.int .i64 (wideTo T.bs T.nbs)) ∧ w' = w1) := widthOf_any _ _ _ _ _ m3 (HI.out w1 hW1).l3
  have F2 : Hid (Calls Try.prog 91 #[.slice A.a1 T.ncl A.c1] w1 fun e w' => e = .returned (.int .i64 (cls T.cl T.ncl)) ∧ w' = w1) := tabClasses_any _ _ _ _ _ m1 (HI.out w1 hW1).l1
  have kc : (convert 106 106 (.slice (some ⟨w1.heap.size + 1, 0, none⟩) 4 4)).run Try.prog ((w1.alloc (.cells #[.slice none 0 0] 121)).alloc (.cells #[.int .u8 77, .int .u8 85, .int .u8 78, .int .u8 49] 5)) = .ok (.slice (some ⟨w1.heap.size + 1, 0, none⟩) 4 4) ((w1.alloc (.cells #[.slice none 0 0] 121)).alloc (.cells #[.int .u8 77, .int .u8 85, .int .u8 78, .int .u8 49] 5 (4, 5))) := by
    have := Lib.run_convert_bytes_const (P := Try.prog) (w1.alloc (.cells #[.slice none 0 0] 121)) 106 5 #[.int .u8 77, .int .u8 85, .int .u8 78, .int .u8 49] 4 4 Try.underlying106 Try.underlying5
    have hsz : (w1.alloc (.cells #[.slice none 0 0] 121)).heap.size = w1.heap.size + 1 := by simp
    rw [hsz] at this; exact this
  have hbW1 : b < w1.heap.size := Nat.lt_of_lt_of_le hbl hW1.size
  obtain ⟨bw, hbw⟩ : ∃ bw, bw = w1.heap.size := ⟨_, rfl⟩
  obtain ⟨W, hWeq⟩ : ∃ W, W = ((w1.alloc (.cells #[.slice none 0 0] 121)).alloc (.cells #[.int .u8 77, .int .u8 85, .int .u8 78, .int .u8 49] 5 (4, 5))) := ⟨_, rfl⟩
  rw [← hWeq] at kc
  have hsz1 : (w1.alloc (.cells #[.slice none 0 0] 121)).heap.size = w1.heap.size + 1 := by simp
  have hWsz : W.heap.size = w1.heap.size + 2 := by rw [hWeq]; simp
  have hcW : W.cell? ⟨w1.heap.size, 0, none⟩ = some (.slice none 0 0) := by
    rw [hWeq, World.cell?_alloc_lt _ _ _ (by rw [hsz1]; exact Nat.lt_succ_self _), World.cell?_alloc_new]; rfl
  have hfW : W.frozen? ⟨w1.heap.size, 0, none⟩ = false := by
    rw [hWeq, World.frozen?_of_block (w := w1.alloc (.cells #[.slice none 0 0] 121)) (a := ⟨w1.heap.size, 0, none⟩) (Below.heap_alloc _ _ _ (by rw [hsz1]; exact Nat.lt_succ_self _))]
    go_simp
  have hB1W : Below w1.heap.size w1 W := by
    rw [hWeq]
    exact ((Below.refl _ _).alloc (Nat.le_refl _) _).alloc (by rw [hsz1]; omega) _
  have hGW : Grows (w1.heap.size + 1) (.slice (some ⟨w1.heap.size + 1, 0, none⟩) 4 4) (bys [77, 85, 78, 49]) W := by
    have := Grows.magic (w1.heap.size + 1) (w1.alloc (.cells #[.slice none 0 0] 121)) (by rw [hsz1]; exact Nat.le_refl _)
    rw [hsz1, ← hWeq] at this; exact this
  clear hWeq hsz1
  have hBW : Below w.heap.size w W := hW1.trans (hB1W.mono hW1.size)
  have hW2 : Below w.heap.size w (W.setCell ⟨w1.heap.size, 0, none⟩ (.slice (some ⟨w1.heap.size + 1, 0, none⟩) 4 4)) := hBW.setCell (p := ⟨w1.heap.size, 0, none⟩) hW1.size _
  have hWr : Wr w1.heap.size (w1.heap.size + 1) [77, 85, 78, 49] (W.setCell ⟨w1.heap.size, 0, none⟩ (.slice (some ⟨w1.heap.size + 1, 0, none⟩) 4 4)) :=
    ⟨Nat.lt_succ_self _, by rw [World.frozen?_setCell]; exact hfW, _, World.cell?_setCell_same W ⟨w1.heap.size, 0, none⟩ _ (by rw [hcW]), hGW.block (by simp [World.setCell]) (fun k _ hk => Below.heap_setCell W ⟨w1.heap.size, 0, none⟩ _ k (fun e => by have := hGW.ge k hk; have e' : k = w1.heap.size := e; omega))⟩
  obtain ⟨d0, d1, d2, d3, d4, d5, d6⟩ := HAt.out w1 hW1
  have f0 := (HAt.out W hBW).c0
  have hne : b ≠ w1.heap.size := by omega
  have Hnum : Hid ((0 < cls T.cl T.ncl ∧ cls T.cl T.ncl ≤ 256) ∧ (1 ≤ T.rules ∧ T.rules ≤ 8) ∧ (1 ≤ T.nlb ∧ T.nlb ≤ 96) ∧ T.nbs = T.nlb ∧ T.ndf = T.nlb ∧ T.nnx = T.nck ∧ T.nck ≤ 24576 ∧ T.ncl = 256) := ⟨⟨hc0, hc1⟩, hr, hl, e3, e4, e6, e5, hncl⟩
  have HWr : Hid (Wr w1.heap.size (w1.heap.size + 1) [77, 85, 78, 49] (W.setCell ⟨w1.heap.size, 0, none⟩ (.slice (some ⟨w1.heap.size + 1, 0, none⟩) 4 4))) := hWr
  have HW2 : Hid (Below w.heap.size w (W.setCell ⟨w1.heap.size, 0, none⟩ (.slice (some ⟨w1.heap.size + 1, 0, none⟩) 4 4))) := hW2
  clear hS e3 e4 e6 e5 hncl hGW hB1W hBW hW2 hWr hbw hc0 hc1 hr hl
  go_wp2_with fail
  refine F1.out.mono ?_
  rintro e w1 ⟨rfl, rfl⟩
  go_wp2_with fail
  refine F2.out.mono ?_
  rintro e w1 ⟨rfl, rfl⟩
  clear F1 F2
  go_wp2_with fail
  have hsz : w1.heap.size + 1 ≤ (W.setCell ⟨w1.heap.size, 0, none⟩ (.slice (some ⟨w1.heap.size + 1, 0, none⟩) 4 4)).heap.size := by simp [World.setCell, hWsz]
  have hwb : w.heap.size ≤ w1.heap.size := hW1.size
  clear d0 d1 d2 d3 d4 d5 d6 f0 hcW hfW hWsz kc hW1 hbW1 hne
  generalize W.setCell ⟨w1.heap.size, 0, none⟩ (.slice (some ⟨w1.heap.size + 1, 0, none⟩) 4 4) = W2 at *
  generalize w1.heap.size = bw at *
  have HIw : Hid (TbIn T A w) := HI.out w (Below.refl _ _)
  have HR1 : Hid (∀ i, i < T.ncl → -1 ≤ T.cl i ∧ T.cl i ≤ 1000000) := fun i hi => by have := cls_range Hnum.out.1.1 i hi; omega
  have HR2 : Hid (∀ i, i < T.nlb → -1 ≤ T.lb i ∧ T.lb i ≤ 1000000) := fun i hi => by have h1 := HSn.out.hd.2.2.2 i hi; have h2 := Hnum.out.2.1; omega
  have HR4 : Hid (∀ i, i < T.ndf → -1 ≤ T.df i ∧ T.df i ≤ 1000000) := fun i hi => by have h0 := Hnum.out; have h1 := HSn.out.b4 i (by omega); omega
  have HR5 : Hid (∀ i, i < T.nck → (-1 ≤ T.ck i ∧ T.ck i ≤ 1000000) ∧ (-1 ≤ T.nx i ∧ T.nx i ≤ 1000000)) := fun i hi => by
    have h0 := Hnum.out
    rcases HSn.out.cs i hi with h | h
    · omega
    · omega
  obtain ⟨⟨nc0, nc1⟩, ⟨nr0, nr1⟩, ⟨nl0, nl1⟩, n3, n4, n6, n5, n1⟩ := Hnum.out
  have N3 : Hid (T.nbs = T.nlb) := n3
  have N4 : Hid (T.ndf = T.nlb) := n4
  have N6 : Hid (T.nnx = T.nck) := n6
  have N1 : Hid (T.ncl = 256) := n1
  clear n3 n4 n6 n1
  have hbas := basesB_len T.bs (wideTo T.bs T.nbs) T.nbs
  -- the rules
  refine Calls.mono (putByte_any bw (bw + 1) [77, 85, 78, 49] T.rules W2 hsz (by simp) HWr.out) ?_
  rintro e w3 ⟨rfl, h3, hB3⟩
  have hW3 := HW2.out.trans (hB3.mono hwb)
  have hs3 := Nat.le_trans hsz hB3.size
  have HWr3 : Hid (Wr bw (bw + 1) ([77, 85, 78, 49] ++ [byteOf T.rules]) w3) := h3
  clear h3 hB3 HW2 HWr hsz
  go_wp2_with fail
  -- the classes
  refine Calls.mono (putByte_any bw (bw + 1) _ ((cls T.cl T.ncl : Int) - 1) w3 hs3 (by simp) HWr3.out) ?_
  rintro e w4 ⟨rfl, h4, hB4⟩
  have hW4 := hW3.trans (hB4.mono hwb)
  have hs4 := Nat.le_trans hs3 hB4.size
  have d4 := (HAt.out w4 hW4).c2
  have HWr4 : Hid (Wr bw (bw + 1) (([77, 85, 78, 49] ++ [byteOf T.rules]) ++ [byteOf ((cls T.cl T.ncl : Int) - 1)]) w4) := h4
  clear h4 hB4 hW3 HWr3 hs3
  go_wp2_with fail
  -- the states
  refine Calls.mono (putByte_any bw (bw + 1) _ (T.nlb : Int) w4 hs4 (by simp) HWr4.out) ?_
  rintro e w5 ⟨rfl, h5, hB5⟩
  have hW5 := hW4.trans (hB5.mono hwb)
  have hs5 := Nat.le_trans hs4 hB5.size
  have d5 := (HAt.out w5 hW5).c5
  have HWr5 : Hid (Wr bw (bw + 1) ((([77, 85, 78, 49] ++ [byteOf T.rules]) ++ [byteOf ((cls T.cl T.ncl : Int) - 1)]) ++ [byteOf T.nlb]) w5) := h5
  clear h5 hB5 hW4 HWr4 hs4 d4
  go_wp2_with fail
  -- the cells
  refine Calls.mono (putWide_any bw (bw + 1) _ (T.nck : Int) w5 hs5 (by simp) HWr5.out) ?_
  rintro e w6 ⟨rfl, h6, hB6⟩
  have hW6 := hW5.trans (hB6.mono hwb)
  have hs6 := Nat.le_trans hs5 hB6.size
  have HWr6 : Hid (Wr bw (bw + 1) (((([77, 85, 78, 49] ++ [byteOf T.rules]) ++ [byteOf ((cls T.cl T.ncl : Int) - 1)]) ++ [byteOf T.nlb]) ++ [byteOf ((T.nck : Int) / 256), byteOf T.nck]) w6) := h6
  clear h6 hB6 hW5 HWr5 hs5 d5
  go_wp2_with fail
  -- the width
  refine Calls.mono (putByte_any bw (bw + 1) _ (wideTo T.bs T.nbs) w6 hs6 (by simp) HWr6.out) ?_
  rintro e w7 ⟨rfl, h7, hB7⟩
  have hW7 := hW6.trans (hB7.mono hwb)
  have hs7 := Nat.le_trans hs6 hB7.size
  have d7 := (HAt.out w7 hW7).c1
  have HE7 : Hid ((((([77, 85, 78, 49] ++ [byteOf T.rules]) ++ [byteOf ((cls T.cl T.ncl : Int) - 1)]) ++ [byteOf T.nlb]) ++ [byteOf ((T.nck : Int) / 256), byteOf T.nck]) ++ [byteOf (wideTo T.bs T.nbs)] = [77, 85, 78, 49] ++ [byteOf T.rules, byteOf ((cls T.cl T.ncl : Int) - 1), byteOf T.nlb, byteOf ((T.nck : Int) / 256), byteOf T.nck, byteOf (wideTo T.bs T.nbs)]) := by show _ = _; simp
  rw [HE7.out] at h7
  generalize hH : ([77, 85, 78, 49] ++ [byteOf T.rules, byteOf ((cls T.cl T.ncl : Int) - 1), byteOf T.nlb, byteOf ((T.nck : Int) / 256), byteOf T.nck, byteOf (wideTo T.bs T.nbs)] : List UInt8) = HD at h7
  have hHl : HD.length = 10 := by rw [← hH]; rfl
  have HH : Hid (bodyL T = ((((HD ++ mapB T.cl T.ncl 0) ++ mapB T.lb T.nlb 1) ++ basesB T.bs T.nbs (wideTo T.bs T.nbs)) ++ mapB T.df T.ndf 1) ++ cellsB T.ck T.nx T.nck) := by show _ = _; rw [← hH]; rfl
  have HWr7 : Hid (Wr bw (bw + 1) HD w7) := h7
  clear h7 hB7 hW6 HWr6 hs6 HE7 hH
  go_wp2_with fail
  -- the class of each byte
  refine Calls.mono (putList_any bw (bw + 1) HD A.a1 T.ncl A.c1 T.cl 0 w w7 hs7 (by have := N1.out; omega) (by omega) HR1.out hwb HIw.out.l1 hW7 HWr7.out) ?_
  rintro e w8 ⟨rfl, h8, hB8⟩
  have hW8 := hW7.trans (hB8.mono hwb)
  have hs8 := Nat.le_trans hs7 hB8.size
  have d8 := (HAt.out w8 hW8).c2
  have HWr8 : Hid (Wr bw (bw + 1) (HD ++ mapB T.cl T.ncl 0) w8) := h8
  clear h8 hB8 hW7 HWr7 hs7 d7
  go_wp2_with fail
  -- the labels
  refine Calls.mono (putList_any bw (bw + 1) _ A.a2 T.nlb A.c2 T.lb 1 w w8 hs8 (by have := N1.out; rw [List.length_append, mapB_len]; omega) (by omega) HR2.out hwb HIw.out.l2 hW8 HWr8.out) ?_
  rintro e w9 ⟨rfl, h9, hB9⟩
  have hW9 := hW8.trans (hB9.mono hwb)
  have hs9 := Nat.le_trans hs8 hB9.size
  have d9 := (HAt.out w9 hW9).c3
  have HWr9 : Hid (Wr bw (bw + 1) ((HD ++ mapB T.cl T.ncl 0) ++ mapB T.lb T.nlb 1) w9) := h9
  clear h9 hB9 hW8 HWr8 hs8 d8
  go_wp2_with fail
  -- the bases
  refine Calls.mono (putBases_any bw (bw + 1) _ A.a3 T.nbs A.c3 T.bs (wideTo T.bs T.nbs) w w9 hs9 (by have := N1.out; have := N3.out; simp only [List.length_append, mapB_len]; omega) hwb HIw.out.l3 hW9 HWr9.out) ?_
  rintro e w10 ⟨rfl, h10, hB10⟩
  have hW10 := hW9.trans (hB10.mono hwb)
  have hs10 := Nat.le_trans hs9 hB10.size
  have d10 := (HAt.out w10 hW10).c4
  have HWr10 : Hid (Wr bw (bw + 1) (((HD ++ mapB T.cl T.ncl 0) ++ mapB T.lb T.nlb 1) ++ basesB T.bs T.nbs (wideTo T.bs T.nbs)) w10) := h10
  clear h10 hB10 hW9 HWr9 hs9 d9
  go_wp2_with fail
  -- what they fall back on
  refine Calls.mono (putList_any bw (bw + 1) _ A.a4 T.ndf A.c4 T.df 1 w w10 hs10 (by have := N1.out; have := N3.out; have := N4.out; simp only [List.length_append, mapB_len]; omega) (by omega) HR4.out hwb HIw.out.l4 hW10 HWr10.out) ?_
  rintro e w11 ⟨rfl, h11, hB11⟩
  have hW11 := hW10.trans (hB11.mono hwb)
  have hs11 := Nat.le_trans hs10 hB11.size
  have d11 := (HAt.out w11 hW11).c5
  have d12 := (HAt.out w11 hW11).c6
  have HWr11 : Hid (Wr bw (bw + 1) ((((HD ++ mapB T.cl T.ncl 0) ++ mapB T.lb T.nlb 1) ++ basesB T.bs T.nbs (wideTo T.bs T.nbs)) ++ mapB T.df T.ndf 1) w11) := h11
  clear h11 hB11 hW10 HWr10 hs10 d10
  have HPC : Hid (∀ w', w'.heap = w11.heap → Below w.heap.size w w' → Calls Try.prog 96 #[.pointer (some ⟨bw, 0, none⟩), .slice A.a5 T.nck A.c5, .slice A.a6 T.nnx A.c6] w' (WrPost bw (bw + 1) w' (bodyL T))) := fun w' hw hWw => by
    rw [HH.out, N6.out]
    exact putCells_any bw (bw + 1) _ A.a5 A.a6 T.nck A.c5 A.c6 T.ck T.nx w w' (by rw [hw]; exact hs11) (by have := N1.out; have := N3.out; have := N4.out; simp only [List.length_append, mapB_len]; omega) HR5.out hwb HIw.out.l5 (by rw [← N6.out]; exact HIw.out.l6) hWw (HWr11.out.heap hw)
  go_wp2_with fail
  go_region_with ((go_at_call 96; refine Calls.mono (HPC.out _ rfl hW11.drew) ?_; rintro e w12 ⟨rfl, h12, hB12⟩))
  all_goals
    have hW12 : Below w.heap.size w w12 := hW11.drew.trans (hB12.mono hwb)
    have hbodl : (bodyL T).length ≤ 1000000 := by
      have := N1.out
      have := N3.out
      have := N4.out
      rw [HH.out]
      simp only [List.length_append, mapB_len, cellsB_len]
      omega
    have hbod0 : 0 < (bodyL T).length := by rw [HH.out]; simp only [List.length_append]; omega
    obtain ⟨_, q1, v, q2, q3⟩ := h12
    clear hB12 HPC HWr11 HH hs11 d11 d12 hW11 hbas HR1 HR2 HR4 HR5 HIw
    generalize hbody : bodyL T = body at *
    have HF : Hid (fileL T = body ++ sumL body) := by show _ = _; rw [fileL, hbody]
    clear hbody
    rcases q3 with ⟨_, h⟩ | ⟨g, cap, rfl, _, _, _, q4, _⟩
    · have : (bys body).length = 0 := by rw [h]; rfl
      rw [bys_len] at this; omega
    rw [bys_len] at q2
    obtain ⟨s1, hs1⟩ : ∃ s1 : ByteArray, s1 = ⟨body.toArray⟩ := ⟨_, rfl⟩
    obtain ⟨s2, hs2⟩ : ∃ s2 : ByteArray, s2 = ⟨(sumL body).toArray⟩ := ⟨_, rfl⟩
    have z1 : s1.size ≤ 1000000 := by rw [hs1]; simpa [ByteArray.size] using hbodl
    have z2 : s2.size = 4 := by rw [hs2]; rfl
    have hconv : (convert 106 9 (.slice (some ⟨g, 0, none⟩) body.length cap)).run Try.prog w12 = .ok (.string s1) w12 := by
      rw [hs1]
      exact run_convert_bytes_back (P := Try.prog) w12 106 9 5 ⟨g, 0, none⟩ cap body Try.underlying106 Try.underlying5 Try.underlying9 (fun j hj => by
        rw [Addr.add_lit, Nat.zero_add]
        exact q4 j _ (by simp [bys, hj]))
    have HSl : Hid (Calls Try.prog 97 #[.string s1] w12 fun e w' => e = .returned (.string s2) ∧ Below w12.heap.size w12 w') := by
      have h := seal_any s1 w12 z1
      rw [show sumL s1.data.toList = sumL body by rw [hs1], ← hs2] at h
      exact h
    have HFF : Hid ((⟨(fileL T).toArray⟩ : ByteArray) = s1 ++ s2) := by
      show _ = _
      rw [HF.out, hs1, hs2]
      exact cat_bytes _ _
    clear q4 hs1 hs2 HF
    go_wp2_with fail
    refine HSl.out.mono ?_
    rintro e w13 ⟨rfl, hW13⟩
    go_wp2_with fail
    go_ret2
    refine ⟨hW12.trans (hW13.mono hW12.size), Or.inl ⟨HSn.out, ?_⟩⟩
    rw [HFF.out]
    rfl
end Go.Proofs.Ytoaaklhpmhjhkaa
