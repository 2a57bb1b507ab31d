/-
  The law Scans.
-/
import Derived.Test.YtoaaklhpmhjhkaaScD
namespace Go.Proofs.Ytoaaklhpmhjhkaa
open Go.RowKit

theorem tks_len (T : Tb) (x : ByteArray) : ∀ u i, (tks T x u i).length ≤ u
  | 0, _ => by simp [tks]
  | u + 1, i => by
    rw [tks]
    split
    · simp; exact tks_len T x u _
    · simp
theorem toks_len (T : Tb) (x : ByteArray) : (toks T x).length ≤ 2000 := by
  unfold toks
  split
  · simp
  · have := tks_len T x x.size 0; omega
theorem OwnK.keep {base : Nat} {v : Value} {l : List (Int × Int × Int)} {w w' : World} (h : OwnK base v l w) (hk : ∀ k, v.ownBlock = some k → w'.heap[k]? = w.heap[k]?) : OwnK base v l w' := by
  refine ⟨h.1, ?_⟩
  rcases h.2 with h0 | ⟨g, cap, cur, rfl, h1, h2, h3⟩
  · exact Or.inl h0
  · exact Or.inr ⟨g, cap, cur, rfl, h1, by rw [hk g rfl]; exact h2, h3⟩
/-- What scanned leaves. -/
def ScdPost (T : Tb) (x : ByteArray) (w : World) (e : Ending) (w' : World) : Prop :=
  ∃ v, e = .returned (.tuple #[v, .bool true]) ∧ OwnK w.heap.size v (toks T x) w' ∧ Below w.heap.size w w'

set_option maxRecDepth 100000 in
set_option maxHeartbeats 4000000 in
theorem scanned_any (b : Nat) (T : Tb) (A B : TbA) (x : ByteArray) (w : World) (hS : Snd T) (hAt : TbAt b T A w) (hA : TbIn T A w) (hB : TbIn T B w) (hx : x.size ≤ 140737488355328) :
    Calls Try.prog 19 #[.pointer (some ⟨b, 0, none⟩), .agg (B.cells T), .string x] w (ScdPost T x w) := by
  obtain ⟨W, hW⟩ : ∃ W, W = w.alloc (.cells (B.cells T) 26) := ⟨_, rfl⟩
  have x0 : Below w.heap.size w W := by rw [hW]; exact bel_box _ _
  have atB : TbAt w.heap.size T B W := by rw [hW]; exact TbAt.boxed T B w _
  have atx := hAt.below x0
  have inA := hA.below x0
  have inB := hB.below x0
  have H1 : Hid (Calls Try.prog 31 #[.pointer (some ⟨b, 0, none⟩), .string x] W (ScanPost T x W)) := xScan_any b T A x W hS atx inA hx
  have H2 : Hid (∀ w', Below W.heap.size W w' → Calls Try.prog 21 #[.agg #[.int .i64 T.rules, .slice B.a1 T.ncl B.c1, .slice B.a2 T.nlb B.c2, .slice B.a3 T.nbs B.c3, .slice B.a4 T.ndf B.c4, .slice B.a5 T.nck B.c5, .slice B.a6 T.nnx B.c6], .string x] w' (ScanPost T x w')) := fun w' h' => refScan_any T B x w' hS (inB.below h') hx
  have HB : Hid (∀ w', Below W.heap.size W w' → w'.rangeAt w.heap.size 0 [.int .i64 T.rules, .slice B.a1 T.ncl B.c1, .slice B.a2 T.nlb B.c2, .slice B.a3 T.nbs B.c3, .slice B.a4 T.ndf B.c4, .slice B.a5 T.nck B.c5, .slice B.a6 T.nnx B.c6]) := fun w' h' => (atB.below h').range
  have e1 : (scErr x == scErr x) = true := by simp
  clear hAt hA hB atB atx inA inB hS
  unfold TbA.cells at hW
  unfold TbA.cells
  go_enter Try.func19, Try.ntmps19
  go_wp2_with fail
  rw [← hW]
  clear hW
  refine H1.out.mono ?_
  rintro e w1 ⟨v1, rfl, hO1, hW1⟩
  have hr := HB.out w1 hW1
  go_wp2_with (first | (refine wpList_load_mid rfl 26 _ rfl w.heap.size 0 rfl [.int .i64 T.rules, .slice B.a1 T.ncl B.c1, .slice B.a2 T.nlb B.c2, .slice B.a3 T.nbs B.c3, .slice B.a4 T.ndf B.c4, .slice B.a5 T.nck B.c5, .slice B.a6 T.nnx B.c6] _ hr Try.underlying26 rfl info_tables ?_))
  refine (H2.out w1 hW1).mono ?_
  rintro e w2 ⟨v2, rfl, hO2, hW2⟩
  have hO12 := hO1.below hW2
  have HC : Hid (Calls Try.prog 22 #[v1, v2] w2 fun e w' => e = .returned (.bool true) ∧ Below w2.heap.size w2 w') := sameTokens_any W.heap.size w1.heap.size v1 v2 (toks T x) w2 (by have := toks_len T x; omega) hO12 hO2
  clear hr hO1 hO2
  go_wp2_with fail
  refine HC.out.mono ?_
  rintro e w3 ⟨rfl, hW3⟩
  go_wp2_with fail
  go_ret2
  have hW12 := hW1.trans (hW2.mono hW1.size)
  have hW13 := hW12.trans (hW3.mono hW12.size)
  exact ⟨v1, by simp, (hO12.below hW3).mono x0.size, x0.trans (hW13.mono x0.size)⟩

set_option maxRecDepth 100000 in
set_option maxHeartbeats 4000000 in
theorem Scans_any (s x : ByteArray) (w : World) (hs : s.size ≤ 140737488355328) (hx : x.size ≤ 140737488355328) : Calls Try.prog 7 #[.string s, .string x] w fun e w' => e = .returned (.bool true) ∧ Below w.heap.size w w' := by
  have hz := zero_tables
  have HL : Hid (Calls Try.prog 13 #[.string s] w (LdPost s w)) := loaded_any s w hs
  go_enter Try.func7, Try.ntmps7
  go_wp2_with fail
  refine HL.out.mono ?_
  rintro e w1 ⟨hW1, ⟨_, rfl⟩ | ⟨hg, b, A, B, rfl, hb, hAt, hA, hB⟩⟩
  · clear HL
    unfold zeroT
    go_wp2_with fail
    go_ret
    exact ⟨rfl, hW1.trans ((bel_box w1 _).mono hW1.size)⟩
  have HSz : Hid (TbSz (fileT s)) := hg.sz
  have HSn : Hid (Snd (fileT s)) := hg.snd
  clear HL hg
  generalize fileT s = T at *
  obtain ⟨W2, hW2⟩ : ∃ W, W = w1.alloc (.cells (B.cells T) 26) := ⟨_, rfl⟩
  have x2 : Below w1.heap.size w1 W2 := by rw [hW2]; exact bel_box _ _
  have at4 : TbAt w1.heap.size T B W2 := by rw [hW2]; exact TbAt.boxed T B w1 _
  have atx := hAt.below x2
  have inA := hA.below x2
  have inB := hB.below x2
  have hBw := hW1.trans (x2.mono hW1.size)
  have HC : Hid (∀ w', Below W2.heap.size W2 w' → Calls Try.prog 19 #[.pointer (some ⟨b, 0, none⟩), .agg #[.int .i64 T.rules, .slice B.a1 T.ncl B.c1, .slice B.a2 T.nlb B.c2, .slice B.a3 T.nbs B.c3, .slice B.a4 T.ndf B.c4, .slice B.a5 T.nck B.c5, .slice B.a6 T.nnx B.c6], .string x] w' (ScdPost T x w')) := fun w' h' => scanned_any b T A B x w' HSn.out (atx.below h') (inA.below h') (inB.below h') hx
  have HRf : Hid (∀ w', Below W2.heap.size W2 w' → Calls Try.prog 21 #[.agg #[.int .i64 T.rules, .slice B.a1 T.ncl B.c1, .slice B.a2 T.nlb B.c2, .slice B.a3 T.nbs B.c3, .slice B.a4 T.ndf B.c4, .slice B.a5 T.nck B.c5, .slice B.a6 T.nnx B.c6], .string x] w' (ScanPost T x w')) := fun w' h' => refScan_any T B x w' HSn.out (inB.below h') hx
  have HT : Hid (∀ w', Below W2.heap.size W2 w' → Calls Try.prog 14 #[.pointer (some ⟨b, 0, none⟩)] w' (TabPost T w')) := fun w' h' => tables_any b T A w' HSz.out (atx.below h') (inA.below h')
  have HB : Hid (∀ w', Below W2.heap.size W2 w' → w'.rangeAt w1.heap.size 0 [.int .i64 T.rules, .slice B.a1 T.ncl B.c1, .slice B.a2 T.nlb B.c2, .slice B.a3 T.nbs B.c3, .slice B.a4 T.ndf B.c4, .slice B.a5 T.nck B.c5, .slice B.a6 T.nnx B.c6]) := fun w' h' => (at4.below h').range
  have HX : Hid (∀ w', Below W2.heap.size W2 w' → w'.cell? ⟨b, 0, none⟩ = some (.int .i64 T.rules)) := fun w' h' => (atx.below h').c0
  have HBw : Hid (Below w.heap.size w W2) := hBw
  have HLen : Hid ((toks T x).length ≤ 100000) := by have := toks_len T x; show _ ≤ _; omega
  clear hAt hA hB x2 hW1 at4 atx inA inB hBw
  unfold TbA.cells at hW2
  unfold TbA.cells
  have hr := HB.out W2 (Below.refl _ _)
  rw [hW2] at hr
  go_wp2_with (first | (refine wpList_load_mid rfl 26 _ rfl w1.heap.size 0 rfl [.int .i64 T.rules, .slice B.a1 T.ncl B.c1, .slice B.a2 T.nlb B.c2, .slice B.a3 T.nbs B.c3, .slice B.a4 T.ndf B.c4, .slice B.a5 T.nck B.c5, .slice B.a6 T.nnx B.c6] _ hr Try.underlying26 rfl info_tables ?_))
  rw [← hW2]
  clear hW2 hr
  generalize w1.heap.size = t4 at *
  refine (HC.out W2 (Below.refl _ _)).mono ?_
  rintro e w3 ⟨v1, rfl, hO1, hW3⟩
  have rm3 := hO1.room
  have lt3 : ∀ k, v1.ownBlock = some k → k < w3.heap.size := fun k hk => (hO1.lt k hk).2
  clear hO1
  go_wp2_with fail
  refine Calls.mono (fullTokens_any W2.heap.size v1 w3 hW3.size rm3) ?_
  rintro e w4 ⟨rfl, rm4, hW4, _, hz4⟩
  have h24 := hW3.trans hW4
  have lt4 : ∀ k, v1.ownBlock = some k → k < w4.heap.size := fun k hk => by rw [hz4]; exact lt3 k hk
  clear rm3 lt3 hW3 hW4 hz4
  have c0 := HX.out w4 h24
  go_wp2_with fail
  clear c0
  refine (HT.out w4 h24).mono ?_
  rintro e w5 ⟨G, rfl, hGl, hAp, hSx, hW5⟩
  obtain ⟨W6, hW6⟩ : ∃ W, W = w5.alloc (.cells ((sixA T G).cells T) 26) := ⟨_, rfl⟩
  have x6 : Below w5.heap.size w5 W6 := by rw [hW6]; exact bel_box _ _
  have h46 : Below w4.heap.size w4 W6 := hW5.trans (x6.mono hW5.size)
  have sx6 := hSx.below x6
  clear hSx hW5 x6
  unfold sixA TbA.cells at hW6
  unfold sixA TbA.cells
  simp only at hW6
  simp only
  go_wp2_with fail
  rw [← hW6]
  clear hW6
  have HF : Hid (Calls Try.prog 16 #[.agg #[.int .i64 T.rules, .slice (some ⟨G 1, 0, none⟩) T.ncl T.ncl, .slice (some ⟨G 2, 0, none⟩) T.nlb T.nlb, .slice (some ⟨G 3, 0, none⟩) T.nbs T.nbs, .slice (some ⟨G 4, 0, none⟩) T.ndf T.ndf, .slice (some ⟨G 5, 0, none⟩) T.nck T.nck, .slice (some ⟨G 6, 0, none⟩) T.nnx T.nnx]] W6 fun e w' => e = .returned (.tuple #[]) ∧ Six T G (fun i _ => 7777776 + (i : Int)) w' ∧ Below w4.heap.size W6 w' ∧ (∀ q, q < W6.heap.size → (∀ i, 0 < nOf T i → q ≠ G i) → w'.heap[q]? = W6.heap[q]?)) := fullTables_any T G (fOf T) w4.heap.size W6 HSz.out sx6 hAp hGl h46.size
  refine HF.out.mono ?_
  rintro e w7 ⟨rfl, _, hW7, _⟩
  have h47 := h46.trans hW7
  have h27 := h24.trans (h47.mono h24.size)
  have rm7 := rm4.below h47
  have lt7 : ∀ k, v1.ownBlock = some k → k < w7.heap.size := fun k hk => Nat.lt_of_lt_of_le (lt4 k hk) h47.size
  clear HF sx6 hAp hGl h46 hW7 h47 rm4 lt4 h24
  have hr := HB.out w7 h27
  go_wp2_with (first | (refine wpList_load_mid rfl 26 _ rfl t4 0 rfl [.int .i64 T.rules, .slice B.a1 T.ncl B.c1, .slice B.a2 T.nlb B.c2, .slice B.a3 T.nbs B.c3, .slice B.a4 T.ndf B.c4, .slice B.a5 T.nck B.c5, .slice B.a6 T.nnx B.c6] _ hr Try.underlying26 rfl info_tables ?_))
  clear hr
  refine (HC.out w7 h27).mono ?_
  rintro e w8 ⟨v2, rfl, hO2, hW8⟩
  have h28 := h27.trans (hW8.mono h27.size)
  have rm8 := rm7.below hW8
  have ge8 := hO2.ge
  go_wp2_with fail
  refine Calls.mono (fullTokens_any W2.heap.size v1 w8 h28.size rm8) ?_
  rintro e w9 ⟨rfl, _, hW9, kp9, hz9⟩
  have h29 := h28.trans hW9
  have hO9 : OwnK w7.heap.size v2 (toks T x) w9 := hO2.keep (fun k hk => kp9 k (fun q hq e => by have := lt7 q hq; have := ge8 k hk; omega))
  clear hO2 rm7 rm8 lt7 ge8 kp9 hz9 hW9 hW8
  have hr := HB.out w9 h29
  go_wp2_with (first | (refine wpList_load_mid rfl 26 _ rfl t4 0 rfl [.int .i64 T.rules, .slice B.a1 T.ncl B.c1, .slice B.a2 T.nlb B.c2, .slice B.a3 T.nbs B.c3, .slice B.a4 T.ndf B.c4, .slice B.a5 T.nck B.c5, .slice B.a6 T.nnx B.c6] _ hr Try.underlying26 rfl info_tables ?_))
  clear hr
  refine (HRf.out w9 h29).mono ?_
  rintro e w10 ⟨v3, rfl, hO3, hW10⟩
  have hO10 := hO9.below hW10
  have h210 := h29.trans (hW10.mono h29.size)
  have HE : Hid (Calls Try.prog 22 #[v2, v3] w10 fun e w' => e = .returned (.bool true) ∧ Below w10.heap.size w10 w') := sameTokens_any w7.heap.size w9.heap.size v2 v3 (toks T x) w10 HLen.out hO10 hO3
  clear hO3 hO9 hO10
  go_wp2_with fail
  refine HE.out.mono ?_
  rintro e w11 ⟨rfl, hW11⟩
  go_wp2_with fail
  go_ret
  exact ⟨rfl, HBw.out.trans ((h210.trans (hW11.mono h210.size)).mono HBw.out.size)⟩
end Go.Proofs.Ytoaaklhpmhjhkaa
