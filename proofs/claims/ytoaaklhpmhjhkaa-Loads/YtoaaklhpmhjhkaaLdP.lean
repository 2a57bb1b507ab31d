/-
  The law Loads.
-/
import Derived.Test.YtoaaklhpmhjhkaaLdO
namespace Go.Proofs.Ytoaaklhpmhjhkaa
open Go.RowKit

theorem Good.sz {s : ByteArray} (h : Good s) : TbSz (fileT s) := by
  obtain ⟨_, ⟨_, ⟨_, ⟨_, h2⟩, h3, _⟩, _⟩, _⟩ := h
  have b6 : (num s 6 1).toNat ≤ 96 := by omega
  have b7 : (num s 7 2).toNat ≤ 24576 := by omega
  refine ⟨?_, ?_, ?_, ?_, ?_, ?_⟩ <;> (show _ + 3 ≤ _; simp only [fileT, rdT]; omega)
theorem TbAt.range {b : Nat} {T : Tb} {A : TbA} {w : World} (h : TbAt b T A w) : w.rangeAt b 0 (A.cells T).toList := fun j v hv => by
  rw [Nat.zero_add]
  rcases j with _ | _ | _ | _ | _ | _ | _ | j
  · cases hv; exact h.c0
  · cases hv; exact h.c1
  · cases hv; exact h.c2
  · cases hv; exact h.c3
  · cases hv; exact h.c4
  · cases hv; exact h.c5
  · cases hv; exact h.c6
  · cases hv
theorem Good.snd {s : ByteArray} (h : Good s) : Snd (fileT s) := h.2.2.2.1

set_option maxRecDepth 100000 in
set_option maxHeartbeats 4000000 in
theorem Loads_any (s : ByteArray) (w : World) (hs : s.size ≤ 140737488355328) : Calls Try.prog 5 #[.string s] w fun e w' => e = .returned (.bool true) ∧ Below w.heap.size w w' := by
  have hz := zero_tables
  have HL : Hid (Calls Try.prog 13 #[.string s] w (LdPost s w)) := loaded_any s w hs
  go_enter Try.func5, Try.ntmps5
  go_wp2_with fail
  refine HL.out.mono ?_
  rintro e w1 ⟨hW1, ⟨_, rfl⟩ | ⟨hg, b, A, B, rfl, hb, hAt, hA, hB⟩⟩
  · clear HL
    unfold zeroT
    go_wp2_with fail
    go_ret
    exact ⟨rfl, hW1.trans ((bel_box w1 _).mono hW1.size)⟩
  have hz2 := hg.sz
  clear HL hg
  generalize fileT s = T at *
  have HSz : Hid (TbSz T) := hz2
  clear hz2
  obtain ⟨W2, hW2⟩ : ∃ W, W = w1.alloc (.cells (B.cells T) 26) := ⟨_, rfl⟩
  have x2 : Below w1.heap.size w1 W2 := by rw [hW2]; exact bel_box _ _
  have at4 : TbAt w1.heap.size T B W2 := by rw [hW2]; exact TbAt.boxed T B w1 _
  have atx := hAt.below x2
  have inA := hA.below x2
  have inB := hB.below x2
  have hBw := hW1.trans (x2.mono hW1.size)
  clear hAt hA hB x2 hW1
  unfold TbA.cells at hW2
  unfold TbA.cells
  go_wp2_with fail
  rw [← hW2]
  clear hW2
  generalize w1.heap.size = t4 at *
  refine Calls.mono (tables_any b T A W2 HSz.out atx inA) ?_
  rintro e w3 ⟨G, rfl, hGl, hAp, hSx, hW3⟩
  obtain ⟨W4, hW4⟩ : ∃ W, W = w3.alloc (.cells ((sixA T G).cells T) 26) := ⟨_, rfl⟩
  have x4 : Below w3.heap.size w3 W4 := by rw [hW4]; exact bel_box _ _
  have at6 : TbAt w3.heap.size T (sixA T G) W4 := by rw [hW4]; exact TbAt.boxed T _ w3 _
  have h24 : Below W2.heap.size W2 W4 := hW3.trans (x4.mono hW3.size)
  have sx4 := hSx.below x4
  have t6lt : W2.heap.size ≤ w3.heap.size := hW3.size
  have t6lt4 : w3.heap.size < W4.heap.size := by rw [hW4]; simp
  have gl : ∀ i, 0 < nOf T i → w3.heap.size ≠ G i := fun i hi e => by have := (hSx i).lt hi; omega
  have hr4 : W4.rangeAt t4 0 [.int .i64 T.rules, .slice B.a1 T.ncl B.c1, .slice B.a2 T.nlb B.c2, .slice B.a3 T.nbs B.c3, .slice B.a4 T.ndf B.c4, .slice B.a5 T.nck B.c5, .slice B.a6 T.nnx B.c6] := (at4.below h24).range
  clear hSx hW3 x4
  unfold sixA TbA.cells at hW4
  unfold sixA TbA.cells
  simp only at hW4
  simp only
  rw [hW4] at hr4
  go_wp2_with (first | (refine wpList_load_mid rfl 26 _ rfl t4 0 rfl [.int .i64 T.rules, .slice B.a1 T.ncl B.c1, .slice B.a2 T.nlb B.c2, .slice B.a3 T.nbs B.c3, .slice B.a4 T.ndf B.c4, .slice B.a5 T.nck B.c5, .slice B.a6 T.nnx B.c6] _ hr4 Try.underlying26 rfl info_tables ?_))
  rw [← hW4]
  clear hr4 hW4
  generalize w3.heap.size = t6 at *
  have HC1 : Hid (Calls Try.prog 15 #[.agg #[.int .i64 T.rules, .slice (some ⟨G 1, 0, none⟩) T.ncl T.ncl, .slice (some ⟨G 2, 0, none⟩) T.nlb T.nlb, .slice (some ⟨G 3, 0, none⟩) T.nbs T.nbs, .slice (some ⟨G 4, 0, none⟩) T.ndf T.ndf, .slice (some ⟨G 5, 0, none⟩) T.nck T.nck, .slice (some ⟨G 6, 0, none⟩) T.nnx T.nnx], .agg #[.int .i64 T.rules, .slice B.a1 T.ncl B.c1, .slice B.a2 T.nlb B.c2, .slice B.a3 T.nbs B.c3, .slice B.a4 T.ndf B.c4, .slice B.a5 T.nck B.c5, .slice B.a6 T.nnx B.c6]] W4 fun e w' => e = .returned (.bool true) ∧ Below W4.heap.size W4 w') := sameTables_any T (sixA T G) B W4 HSz.out sx4.in_ (inB.below h24)
  refine HC1.out.mono ?_
  rintro e w5 ⟨rfl, hW5⟩
  have h25 := h24.trans (hW5.mono h24.size)
  have at65 := at6.below hW5
  have sx5 := sx4.below hW5
  have t6l5 : t6 < w5.heap.size := at65.lt
  clear HC1 hW5 h24 sx4 at6
  obtain ⟨q0, q1, q2, q3, q4, q5, q6⟩ := at65
  unfold sixA at q1 q2 q3 q4 q5 q6
  simp only at q1 q2 q3 q4 q5 q6
  have HC2 : Hid (Calls Try.prog 16 #[.agg #[.int .i64 T.rules, .slice (some ⟨G 1, 0, none⟩) T.ncl T.ncl, .slice (some ⟨G 2, 0, none⟩) T.nlb T.nlb, .slice (some ⟨G 3, 0, none⟩) T.nbs T.nbs, .slice (some ⟨G 4, 0, none⟩) T.ndf T.ndf, .slice (some ⟨G 5, 0, none⟩) T.nck T.nck, .slice (some ⟨G 6, 0, none⟩) T.nnx T.nnx]] w5 fun e w' => e = .returned (.tuple #[]) ∧ Six T G (fun i _ => 7777776 + (i : Int)) w' ∧ Below W2.heap.size w5 w' ∧ (∀ q, q < w5.heap.size → (∀ i, 0 < nOf T i → q ≠ G i) → w'.heap[q]? = w5.heap[q]?)) := fullTables_any T G (fOf T) W2.heap.size w5 HSz.out sx5 hAp hGl h25.size
  have at65 : TbAt t6 T (sixA T G) w5 := ⟨q0, q1, q2, q3, q4, q5, q6⟩
  go_wp2_with fail
  refine HC2.out.mono ?_
  rintro e w6 ⟨rfl, mk6, hW6, kp6⟩
  clear q0 q1 q2 q3 q4 q5 q6
  have h26 := h25.trans hW6
  have at66 := at65.blk (kp6 t6 t6l5 gl)
  clear HC2 h25 sx5 at65 hW6 kp6 hAp hGl gl
  have c0 := (atx.below h26).c0
  go_wp2_with fail
  clear c0
  refine Calls.mono (tables_any b T A w6 HSz.out (atx.below h26) (inA.below h26)) ?_
  rintro e w7 ⟨G2, rfl, _, _, hSx2, hW7⟩
  have h27 := h26.trans (hW7.mono h26.size)
  have mk7 := mk6.below hW7
  have at67 := at66.below hW7
  clear mk6 at66 hW7
  obtain ⟨W8, hW8⟩ : ∃ W, W = w7.alloc (.cells ((sixA T G2).cells T) 26) := ⟨_, rfl⟩
  have x8 : Below w7.heap.size w7 W8 := by rw [hW8]; exact bel_box _ _
  have h28 : Below W2.heap.size W2 W8 := h27.trans (x8.mono h27.size)
  have sx8 := hSx2.below x8
  have mk8 := mk7.below x8
  have at68 := at67.below x8
  have hr4 : W8.rangeAt t4 0 [.int .i64 T.rules, .slice B.a1 T.ncl B.c1, .slice B.a2 T.nlb B.c2, .slice B.a3 T.nbs B.c3, .slice B.a4 T.ndf B.c4, .slice B.a5 T.nck B.c5, .slice B.a6 T.nnx B.c6] := (at4.below h28).range
  clear hSx2 x8 mk7 at67
  unfold sixA TbA.cells at hW8
  unfold sixA TbA.cells
  simp only at hW8
  simp only
  rw [hW8] at hr4
  go_wp2_with (first | (refine wpList_load_mid rfl 26 _ rfl t4 0 rfl [.int .i64 T.rules, .slice B.a1 T.ncl B.c1, .slice B.a2 T.nlb B.c2, .slice B.a3 T.nbs B.c3, .slice B.a4 T.ndf B.c4, .slice B.a5 T.nck B.c5, .slice B.a6 T.nnx B.c6] _ hr4 Try.underlying26 rfl info_tables ?_))
  rw [← hW8]
  clear hr4 hW8
  have HC3 : Hid (Calls Try.prog 15 #[.agg #[.int .i64 T.rules, .slice (some ⟨G2 1, 0, none⟩) T.ncl T.ncl, .slice (some ⟨G2 2, 0, none⟩) T.nlb T.nlb, .slice (some ⟨G2 3, 0, none⟩) T.nbs T.nbs, .slice (some ⟨G2 4, 0, none⟩) T.ndf T.ndf, .slice (some ⟨G2 5, 0, none⟩) T.nck T.nck, .slice (some ⟨G2 6, 0, none⟩) T.nnx T.nnx], .agg #[.int .i64 T.rules, .slice B.a1 T.ncl B.c1, .slice B.a2 T.nlb B.c2, .slice B.a3 T.nbs B.c3, .slice B.a4 T.ndf B.c4, .slice B.a5 T.nck B.c5, .slice B.a6 T.nnx B.c6]] W8 fun e w' => e = .returned (.bool true) ∧ Below W8.heap.size W8 w') := sameTables_any T (sixA T G2) B W8 HSz.out sx8.in_ (inB.below h28)
  refine HC3.out.mono ?_
  rintro e w9 ⟨rfl, hW9⟩
  have h29 := h28.trans (hW9.mono h28.size)
  have mk9 := mk8.below hW9
  obtain ⟨q0, q1, q2, q3, q4, q5, q6⟩ := at68.below hW9
  unfold sixA at q1 q2 q3 q4 q5 q6
  simp only at q1 q2 q3 q4 q5 q6
  clear HC3 hW9 mk8 at68 sx8 h28
  have HC4 : Hid (Calls Try.prog 17 #[.agg #[.int .i64 T.rules, .slice (some ⟨G 1, 0, none⟩) T.ncl T.ncl, .slice (some ⟨G 2, 0, none⟩) T.nlb T.nlb, .slice (some ⟨G 3, 0, none⟩) T.nbs T.nbs, .slice (some ⟨G 4, 0, none⟩) T.ndf T.ndf, .slice (some ⟨G 5, 0, none⟩) T.nck T.nck, .slice (some ⟨G 6, 0, none⟩) T.nnx T.nnx]] w9 fun e w' => e = .returned (.bool true) ∧ Below w9.heap.size w9 w') := filled_any T G w9 HSz.out mk9
  go_wp2_with fail
  refine HC4.out.mono ?_
  rintro e w10 ⟨rfl, hW10⟩
  go_wp2_with fail
  go_ret
  exact ⟨rfl, hBw.trans ((h29.trans (hW10.mono h29.size)).mono hBw.size)⟩
end Go.Proofs.Ytoaaklhpmhjhkaa
