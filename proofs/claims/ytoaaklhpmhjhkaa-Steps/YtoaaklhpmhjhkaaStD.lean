/-
  The law Steps.
-/
import Derived.Test.YtoaaklhpmhjhkaaStB
import Derived.Test.YtoaaklhpmhjhkaaStC
import Derived.Test.YtoaaklhpmhjhkaaLdP
namespace Go.Proofs.Ytoaaklhpmhjhkaa
open Go.RowKit

set_option maxRecDepth 100000 in
set_option maxHeartbeats 4000000 in
theorem stepped_any (b : Nat) (T : Tb) (A B : TbA) (s x : Int) (w : World) (hS : Snd T) (hAt : TbAt b T A w) (hA : TbIn T A w) (hB : TbIn T B w) :
    Calls Try.prog 18 #[.pointer (some ⟨b, 0, none⟩), .agg (B.cells T), .int .i64 s, .int .i64 x] w fun e w' => e = .returned (.bool true) ∧ Below w.heap.size w w' := by
  obtain ⟨W, hW⟩ : ∃ W, W = w.alloc (.cells (B.cells T) 26) := ⟨_, rfl⟩
  have hx : Below w.heap.size w W := by rw [hW]; exact bel_box _ _
  have atB : TbAt w.heap.size T B W := by rw [hW]; exact TbAt.boxed T B w _
  have atx := hAt.below hx
  have inA := hA.below hx
  have inB := hB.below hx
  have H1 : Hid (∀ w', Below W.heap.size W w' → Calls Try.prog 29 #[.pointer (some ⟨b, 0, none⟩), .int .i64 s, .int .i64 x] w' fun e w'' => e = .returned (.int .i64 (stp T s x)) ∧ w'' = w') := fun w' h' => xStep_any b T A s x w' hS (atx.below h') (inA.below h')
  have H2 : Hid (∀ w', Below W.heap.size W w' → Calls Try.prog 48 #[.agg #[.int .i64 T.rules, .slice B.a1 T.ncl B.c1, .slice B.a2 T.nlb B.c2, .slice B.a3 T.nbs B.c3, .slice B.a4 T.ndf B.c4, .slice B.a5 T.nck B.c5, .slice B.a6 T.nnx B.c6], .int .i64 s, .int .i64 x] w' fun e w'' => e = .returned (.int .i64 (stp T s x)) ∧ Below w'.heap.size w' w'') := fun w' h' => refStep_any T B s x w' hS (inB.below h')
  have H3 : Hid (∀ w', Below W.heap.size W w' → Calls Try.prog 28 #[.pointer (some ⟨b, 0, none⟩), .int .i64 s] w' fun e w'' => e = .returned (.int .i64 (lbl T s)) ∧ w'' = w') := fun w' h' => xLabel_any b T A s w' (atx.below h') (inA.below h')
  have H4 : Hid (∀ w', Below W.heap.size W w' → Calls Try.prog 49 #[.agg #[.int .i64 T.rules, .slice B.a1 T.ncl B.c1, .slice B.a2 T.nlb B.c2, .slice B.a3 T.nbs B.c3, .slice B.a4 T.ndf B.c4, .slice B.a5 T.nck B.c5, .slice B.a6 T.nnx B.c6], .int .i64 s] w' fun e w'' => e = .returned (.int .i64 (lbl T s)) ∧ Below w'.heap.size w' w'') := fun w' h' => refLabel_any T B s w' (inB.below h')
  have HB : Hid (∀ w', Below W.heap.size W w' → w'.rangeAt w.heap.size 0 [.int .i64 T.rules, .slice B.a1 T.ncl B.c1, .slice B.a2 T.nlb B.c2, .slice B.a3 T.nbs B.c3, .slice B.a4 T.ndf B.c4, .slice B.a5 T.nck B.c5, .slice B.a6 T.nnx B.c6]) := fun w' h' => (atB.below h').range
  have hA0 : Below W.heap.size W W := Below.refl _ _
  have e1 : (stp T s x == stp T s x) = true := by simp
  have e2 : (lbl T s == lbl T s) = true := by simp
  clear hAt hA hB atB atx inA inB hS
  unfold TbA.cells at hW
  unfold TbA.cells
  go_enter Try.func18, Try.ntmps18
  go_wp2_with fail
  rw [← hW]
  clear hW
  refine (H1.out _ hA0).mono ?_
  rintro e w1 ⟨rfl, rfl⟩
  have hr := HB.out w1 hA0
  go_wp2_with (first | (refine wpList_load_mid rfl 26 _ rfl w.heap.size 0 rfl [.int .i64 T.rules, .slice B.a1 T.ncl B.c1, .slice B.a2 T.nlb B.c2, .slice B.a3 T.nbs B.c3, .slice B.a4 T.ndf B.c4, .slice B.a5 T.nck B.c5, .slice B.a6 T.nnx B.c6] _ hr Try.underlying26 rfl info_tables ?_))
  refine (H2.out _ hA0).mono ?_
  rintro e w2 ⟨rfl, hB2⟩
  go_wp2_with fail
  refine (H3.out _ hB2).mono ?_
  rintro e w3 ⟨rfl, rfl⟩
  have hr := HB.out w3 hB2
  go_wp2_with (first | (refine wpList_load_mid rfl 26 _ rfl w.heap.size 0 rfl [.int .i64 T.rules, .slice B.a1 T.ncl B.c1, .slice B.a2 T.nlb B.c2, .slice B.a3 T.nbs B.c3, .slice B.a4 T.ndf B.c4, .slice B.a5 T.nck B.c5, .slice B.a6 T.nnx B.c6] _ hr Try.underlying26 rfl info_tables ?_))
  refine (H4.out _ hB2).mono ?_
  rintro e w4 ⟨rfl, hB4⟩
  go_wp2_with fail
  go_ret
  exact ⟨ret_bool (by simp), hx.trans ((hB2.trans (hB4.mono hB2.size)).mono hx.size)⟩

set_option maxRecDepth 100000 in
set_option maxHeartbeats 4000000 in
theorem Steps_any (s : ByteArray) (y x : Int) (w : World) (hs : s.size ≤ 140737488355328) : Calls Try.prog 6 #[.string s, .int .i64 y, .int .i64 x] w fun e w' => e = .returned (.bool true) ∧ Below w.heap.size w w' := by
  have hz := zero_tables
  have HL : Hid (Calls Try.prog 13 #[.string s] w (LdPost s w)) := loaded_any s w hs
  go_enter Try.func6, Try.ntmps6
  go_wp2_with fail
  refine HL.out.mono ?_
  rintro e w1 ⟨hW1, ⟨_, rfl⟩ | ⟨hg, b, A, B, rfl, hb, hAt, hA, hB⟩⟩
  · clear HL
    unfold zeroT
    go_wp2_with fail
    go_ret
    exact ⟨rfl, hW1.trans ((bel_box w1 _).mono hW1.size)⟩
  have HSn : Hid (Snd (fileT s)) := hg.snd
  clear HL hg
  generalize fileT s = T at *
  obtain ⟨W2, hW2⟩ : ∃ W, W = w1.alloc (.cells (B.cells T) 26) := ⟨_, rfl⟩
  have x2 : Below w1.heap.size w1 W2 := by rw [hW2]; exact bel_box _ _
  have at4 : TbAt w1.heap.size T B W2 := by rw [hW2]; exact TbAt.boxed T B w1 _
  have atx := hAt.below x2
  have inA := hA.below x2
  have inB := hB.below x2
  have hBw := hW1.trans (x2.mono hW1.size)
  have HC : Hid (∀ (y : Int) w', Below W2.heap.size W2 w' → Calls Try.prog 18 #[.pointer (some ⟨b, 0, none⟩), .agg #[.int .i64 T.rules, .slice B.a1 T.ncl B.c1, .slice B.a2 T.nlb B.c2, .slice B.a3 T.nbs B.c3, .slice B.a4 T.ndf B.c4, .slice B.a5 T.nck B.c5, .slice B.a6 T.nnx B.c6], .int .i64 y, .int .i64 x] w' fun e w'' => e = .returned (.bool true) ∧ Below w'.heap.size w' w'') := fun y w' h' => stepped_any b T A B y x w' HSn.out (atx.below h') (inA.below h') (inB.below h')
  have HB : Hid (∀ w', Below W2.heap.size W2 w' → w'.rangeAt w1.heap.size 0 [.int .i64 T.rules, .slice B.a1 T.ncl B.c1, .slice B.a2 T.nlb B.c2, .slice B.a3 T.nbs B.c3, .slice B.a4 T.ndf B.c4, .slice B.a5 T.nck B.c5, .slice B.a6 T.nnx B.c6]) := fun w' h' => (at4.below h').range
  have HBw : Hid (Below w.heap.size w W2) := hBw
  clear hAt hA hB x2 hW1 at4 atx inA inB hBw
  unfold TbA.cells at hW2
  unfold TbA.cells
  have hr := HB.out W2 (Below.refl _ _)
  rw [hW2] at hr
  go_wp2_with (first | (refine wpList_load_mid rfl 26 _ rfl w1.heap.size 0 rfl [.int .i64 T.rules, .slice B.a1 T.ncl B.c1, .slice B.a2 T.nlb B.c2, .slice B.a3 T.nbs B.c3, .slice B.a4 T.ndf B.c4, .slice B.a5 T.nck B.c5, .slice B.a6 T.nnx B.c6] _ hr Try.underlying26 rfl info_tables ?_))
  rw [← hW2]
  clear hW2 hr
  refine (HC.out y W2 (Below.refl _ _)).mono ?_
  rintro e w3 ⟨rfl, hW3⟩
  go_wp2_with fail
  go_loopw [9, 10] (fun o i w' => ∃ k : Nat, k ≤ 96 ∧ o = .bool true ∧ i = .int .i64 k ∧ Below W2.heap.size W2 w') (fun _ i _ => 96 - (intOf i).toNat)
  case atStart => exact ⟨0, by omega, rfl, rfl, hW3⟩
  case round =>
    obtain ⟨k, hk, rfl, rfl, hW⟩ := hrel
    by_cases hlt : k < 96
    · have hlt' : (k : Int) < 96 := by omega
      have hr := HB.out wr hW
      have HC1 := HC.out (k : Int) wr hW
      have HC2 : Hid (Calls Try.prog 18 #[.pointer (some ⟨b, 0, none⟩), .agg #[.int .i64 T.rules, .slice B.a1 T.ncl B.c1, .slice B.a2 T.nlb B.c2, .slice B.a3 T.nbs B.c3, .slice B.a4 T.ndf B.c4, .slice B.a5 T.nck B.c5, .slice B.a6 T.nnx B.c6], .int .i64 k, .int .i64 x] wr fun e w'' => e = .returned (.bool true) ∧ Below wr.heap.size wr w'') := HC1
      clear HC1
      go_wp2_with (first | (refine wpList_load_mid rfl 26 _ rfl w1.heap.size 0 rfl [.int .i64 T.rules, .slice B.a1 T.ncl B.c1, .slice B.a2 T.nlb B.c2, .slice B.a3 T.nbs B.c3, .slice B.a4 T.ndf B.c4, .slice B.a5 T.nck B.c5, .slice B.a6 T.nnx B.c6] _ hr Try.underlying26 rfl info_tables ?_))
      refine HC2.out.mono ?_
      rintro e w4 ⟨rfl, hW4⟩
      go_wp2_with fail
      go_roundw
      case rel => exact ⟨k + 1, by omega, rfl, by go_num, hW.trans (hW4.mono hW.size)⟩
      case measure => simp [intOf]; omega
    · have hge : ¬ (k : Int) < 96 := by omega
      go_wp2_with fail
      go_ret
      exact ⟨rfl, HBw.out.trans (hW.mono HBw.out.size)⟩
end Go.Proofs.Ytoaaklhpmhjhkaa
