/-
  Contract of the law Packs.
-/
import Derived.Test.YtoaaklhpmhjhkaaPkQ
namespace Go.Proofs.Ytoaaklhpmhjhkaa
open Go.RowKit
open Bm

set_option maxRecDepth 100000 in
set_option maxHeartbeats 8000000 in
theorem Packs_any (M : Mc) (A : McA) (w : World) (hs : McSz M) (hI : McIn M A w) : Calls Try.prog 8 #[.agg (A.cells M)] w fun e w' => e = .returned (.bool true) ∧ Below w.heap.size w w' := by
  have hz := zero_tables
  obtain ⟨W0, hW0⟩ : ∃ W, W = w.alloc (.cells (A.cells M) 49) := ⟨_, rfl⟩
  have x0 : Below w.heap.size w W0 := by rw [hW0]; exact bel_box _ _
  have z0 : W0.heap.size = w.heap.size + 1 := by rw [hW0]; simp
  have hA0 : McAt w.heap.size M A W0 := by rw [hW0]; exact McAt.boxed M A w _
  have HPk : Hid (Calls Try.prog 23 #[.agg (A.cells M)] W0 (PkdPost M W0)) := packed_any M A W0 hs (hI.below x0)
  have HA0 : Hid (McAt w.heap.size M A W0) := hA0
  have HX : Hid (Below w.heap.size w W0) := x0
  have Hz0 : Hid (W0.heap.size = w.heap.size + 1) := z0
  have HI : Hid (McIn M A w) := hI
  have Hsz : Hid (McSz M) := hs
  obtain ⟨d0, d1, d2, d3⟩ := hA0
  rw [hW0] at d0 d1 d2 d3
  unfold McA.cells at hW0 HPk ⊢
  clear x0 z0 hI hs
  go_enter Try.func8, Try.ntmps8
  go_wp2_with fail
  rw [← hW0]
  clear hW0 d0 d1 d2 d3
  refine HPk.out.mono ?_
  rintro e w1 ⟨T, A1, c, hR, rfl, hO1, hB1⟩
  clear HPk
  -- the first tables
  obtain ⟨W2, hW2⟩ : ∃ W, W = w1.alloc (.cells (A1.cells T) 26) := ⟨_, rfl⟩
  have x2 : Below w1.heap.size w1 W2 := by rw [hW2]; exact bel_box _ _
  have z2 : W2.heap.size = w1.heap.size + 1 := by rw [hW2]; simp
  have t2 : TbAt w1.heap.size T A1 W2 := by rw [hW2]; exact TbAt.boxed T A1 w1 _
  obtain ⟨hF1, G, C, h61, hB61⟩ := hO1
  have hlt : ∀ i, 1 ≤ i → i ≤ 6 → 0 < C i → G i < w1.heap.size := fun i i1 i2 hc => (h61.r i i1 i2).lt hc
  have b02 := hB1.trans (x2.mono hB1.size)
  have HFt : Hid (Calls Try.prog 16 #[.agg (A1.cells T)] W2 fun e w' => e = .returned (.tuple #[]) ∧ SixR (vals T A1) G C w' ∧ (∀ i, 1 ≤ i → i ≤ 6 → NRow (G i) (fun _ => 7777776 + (i : Int)) (C i) w') ∧ Below W0.heap.size W2 w' ∧ (∀ q, q < W2.heap.size → (∀ i, 1 ≤ i → i ≤ 6 → 0 < C i → q ≠ G i) → w'.heap[q]? = W2.heap[q]?) ∧ W2.heap.size ≤ w'.heap.size) := fullTablesR_any T.rules (vals T A1) G C W0.heap.size W2 (h61.below x2) hB61 b02.size
  have Hlt : Hid (∀ i, 1 ≤ i → i ≤ 6 → 0 < C i → G i < w1.heap.size) := hlt
  have HG : Hid (∀ i, 1 ≤ i → i ≤ 6 → 0 < C i → W0.heap.size ≤ G i) := hB61
  have Hb : Hid (Below W0.heap.size W0 W2 ∧ W2.heap.size = w1.heap.size + 1) := ⟨b02, z2⟩
  have Ht2 : Hid (TbAt w1.heap.size T A1 W2) := t2
  have HR : Hid (ResIs M T c) := hR
  obtain ⟨d0, d1, d2, d3, d4, d5, d6⟩ := t2
  unfold TbA.cells at hW2 HFt
  rw [hW2] at d0 d1 d2 d3 d4 d5 d6
  clear x2 z2 hF1 h61 hB61 hlt b02 hB1 hR
  unfold TbA.cells
  go_wp2_with fail
  rw [← hW2]
  clear hW2 d0 d1 d2 d3 d4 d5 d6
  refine HFt.out.mono ?_
  rintro e w3 ⟨rfl, h63, hn3, hB3, hk3, hz3⟩
  clear HFt
  obtain ⟨b02, z2⟩ := Hb.out
  have b03 : Below W0.heap.size W0 w3 := b02.trans hB3
  have bw3 : Below w.heap.size w w3 := HX.out.trans (b03.mono HX.out.size)
  have t3 : TbAt w1.heap.size T A1 w3 := Ht2.out.blk (hk3 _ (by omega) (fun i i1 i2 hc => by have := Hlt.out i i1 i2 hc; omega))
  have a3 : McAt w.heap.size M A w3 := HA0.out.below b03
  have HPk : Hid (Calls Try.prog 23 #[.agg (A.cells M)] w3 (PkdPost M w3)) := packed_any M A w3 Hsz.out (HI.out.below bw3)
  have H63 : Hid (SixR (vals T A1) G C w3) := h63
  have Hn3 : Hid (∀ i, 1 ≤ i → i ≤ 6 → NRow (G i) (fun _ => 7777776 + (i : Int)) (C i) w3) := hn3
  have Ht3 : Hid (TbAt w1.heap.size T A1 w3) := t3
  have Hb3 : Hid (Below W0.heap.size W0 w3 ∧ Below w.heap.size w w3 ∧ w1.heap.size + 1 ≤ w3.heap.size) := ⟨b03, bw3, by omega⟩
  have Ha3 : Hid (McAt w.heap.size M A w3) := a3
  obtain ⟨d0, d1, d2, d3⟩ := a3
  unfold McA.cells at HPk
  clear b02 z2 b03 bw3 t3 h63 hn3 hB3 hk3 hz3
  go_wp2_with fail
  clear d0 d1 d2 d3
  refine HPk.out.mono ?_
  rintro e w4 ⟨T', A4, c', hR', rfl, hO4, hB4⟩
  clear HPk
  obtain ⟨eT, eC⟩ := HR.out.uniq hR'
  subst eT
  subst eC
  clear hR'
  -- the second tables
  obtain ⟨W5, hW5⟩ : ∃ W, W = w4.alloc (.cells (A4.cells T') 26) := ⟨_, rfl⟩
  have x5 : Below w4.heap.size w4 W5 := by rw [hW5]; exact bel_box _ _
  have z5 : W5.heap.size = w4.heap.size + 1 := by rw [hW5]; simp
  have t5 : TbAt w4.heap.size T' A4 W5 := by rw [hW5]; exact TbAt.boxed T' A4 w4 _
  have b35 := hB4.trans (x5.mono hB4.size)
  have s5 := Ht3.out.below b35
  have HFi : Hid (Calls Try.prog 17 #[.agg (A1.cells T')] W5 fun e w' => e = .returned (.bool true) ∧ Below W5.heap.size W5 w') := filledR_any T'.rules (vals T' A1) G C W5 (H63.out.below b35) (fun i i1 i2 => (Hn3.out i i1 i2).below b35)
  have Hb5 : Hid (Below w3.heap.size w3 W5 ∧ W5.heap.size = w4.heap.size + 1 ∧ w3.heap.size ≤ w4.heap.size) := ⟨b35, z5, hB4.size⟩
  have HF5 : Hid (TbF w3.heap.size T' A4 W5) := hO4.1.below x5
  have Ht5 : Hid (TbAt w4.heap.size T' A4 W5) := t5
  have Hs5 : Hid (TbAt w1.heap.size T' A1 W5) := s5
  obtain ⟨d0, d1, d2, d3, d4, d5, d6⟩ := s5
  unfold TbA.cells at hW5 HFi
  rw [hW5] at d0 d1 d2 d3 d4 d5 d6
  clear x5 z5 t5 b35 hO4 hB4
  unfold TbA.cells
  go_wp2_with fail
  rw [← hW5]
  clear hW5 d0 d1 d2 d3 d4 d5 d6
  refine HFi.out.mono ?_
  rintro e w6 ⟨rfl, hB6⟩
  clear HFi
  -- written full once more
  obtain ⟨b35, z5, z34⟩ := Hb5.out
  obtain ⟨b03, bw3, z13⟩ := Hb3.out
  have b36 := b35.trans (hB6.mono b35.size)
  have b06 := b03.trans (b36.mono b03.size)
  have s6 := Hs5.out.below hB6
  have HFt : Hid (Calls Try.prog 16 #[.agg (A1.cells T')] w6 fun e w' => e = .returned (.tuple #[]) ∧ SixR (vals T' A1) G C w' ∧ (∀ i, 1 ≤ i → i ≤ 6 → NRow (G i) (fun _ => 7777776 + (i : Int)) (C i) w') ∧ Below W0.heap.size w6 w' ∧ (∀ q, q < w6.heap.size → (∀ i, 1 ≤ i → i ≤ 6 → 0 < C i → q ≠ G i) → w'.heap[q]? = w6.heap[q]?) ∧ w6.heap.size ≤ w'.heap.size) := fullTablesR_any T'.rules (vals T' A1) G C W0.heap.size w6 (H63.out.below b36) HG.out b06.size
  have Hb6 : Hid (Below W5.heap.size W5 w6) := hB6
  have Hb06 : Hid (Below W0.heap.size W0 w6) := b06
  obtain ⟨d0, d1, d2, d3, d4, d5, d6⟩ := s6
  unfold TbA.cells at HFt
  clear b35 z5 z34 b03 bw3 z13 b36 b06 hB6
  go_wp2_with fail
  clear d0 d1 d2 d3 d4 d5 d6
  refine HFt.out.mono ?_
  rintro e w7 ⟨rfl, h67, hn7, hB7, hk7, hz7⟩
  clear HFt h67 hn7
  obtain ⟨b35, z5, z34⟩ := Hb5.out
  obtain ⟨b03, bw3, z13⟩ := Hb3.out
  have b07 : Below W0.heap.size W0 w7 := Hb06.out.trans hB7
  have bw7 : Below w.heap.size w w7 := HX.out.trans (b07.mono HX.out.size)
  have z56 := Hb6.out.size
  have kk : ∀ q, w3.heap.size ≤ q → q < W5.heap.size → w7.heap[q]? = W5.heap[q]? := fun q h1 h2 => by
    rw [hk7 q (by omega) (fun i i1 i2 hc => by have := Hlt.out i i1 i2 hc; omega), Hb6.out.block q h2]
  have t7 : TbAt w4.heap.size T' A4 w7 := Ht5.out.blk (kk _ (by omega) (by omega))
  have f7 : TbF w3.heap.size T' A4 w7 := fun w'' hz hk => HF5.out w'' (by omega) (fun q h1 h2 => by rw [hk q h1 (by omega), kk q h1 h2])
  have a7 : McAt w.heap.size M A w7 := HA0.out.below b07
  have HRf : Hid (Calls Try.prog 24 #[.agg (A.cells M)] w7 (RefPost M w7)) := refPack_any M A w7 Hsz.out (HI.out.below bw7)
  have Ht7 : Hid (TbAt w4.heap.size T' A4 w7) := t7
  have Hf7 : Hid (TbF w3.heap.size T' A4 w7) := f7
  have Hb7 : Hid (Below w.heap.size w w7) := bw7
  obtain ⟨d0, d1, d2, d3⟩ := a7
  unfold McA.cells at HRf
  clear b35 z5 z34 b03 bw3 z13 b07 bw7 z56 kk t7 f7 hB7 hk7 hz7
  go_wp2_with fail
  clear d0 d1 d2 d3
  refine HRf.out.mono ?_
  intro e w8 hRP
  obtain ⟨T'', A8, c'', hR', rfl, hF8, hB8⟩ := hRP.own
  obtain ⟨eT, eC⟩ := HR.out.uniq hR'
  subst eT
  subst eC
  clear HRf hRP hR'
  obtain ⟨W9, hW9⟩ : ∃ W, W = w8.alloc (.cells (A8.cells T'') 26) := ⟨_, rfl⟩
  have x9 : Below w8.heap.size w8 W9 := by rw [hW9]; exact bel_box _ _
  have t9 : TbAt w8.heap.size T'' A8 W9 := by rw [hW9]; exact TbAt.boxed T'' A8 w8 _
  have b79 := hB8.trans (x9.mono hB8.size)
  have s9 := Ht7.out.below b79
  have i4 : TbIn T'' A4 W9 := (Hf7.out.below b79).in_
  have i8 : TbIn T'' A8 W9 := (hF8.below x9).in_
  have HSa : Hid (Calls Try.prog 15 #[.agg (A4.cells T''), .agg (A8.cells T'')] W9 fun e w' => e = .returned (.bool true) ∧ Below W9.heap.size W9 w') := sameTables_any T'' A4 A8 W9 HR.out.sz i4 i8
  have Hb9 : Hid (Below w.heap.size w W9) := Hb7.out.trans (b79.mono Hb7.out.size)
  obtain ⟨d0, d1, d2, d3, d4, d5, d6⟩ := s9
  obtain ⟨f0, f1, f2, f3, f4, f5, f6⟩ := t9
  unfold TbA.cells at hW9 HSa
  rw [hW9] at d0 d1 d2 d3 d4 d5 d6 f0 f1 f2 f3 f4 f5 f6
  clear x9 b79 i4 i8 hF8 hB8
  unfold TbA.cells
  go_wp2_with fail
  rw [← hW9]
  clear hW9 d0 d1 d2 d3 d4 d5 d6 f0 f1 f2 f3 f4 f5 f6
  refine HSa.out.mono ?_
  rintro e w10 ⟨rfl, hB10⟩
  clear HSa
  go_wp2_with fail
  go_ret
  exact ⟨rfl, Hb9.out.trans (hB10.mono Hb9.out.size)⟩
end Go.Proofs.Ytoaaklhpmhjhkaa
