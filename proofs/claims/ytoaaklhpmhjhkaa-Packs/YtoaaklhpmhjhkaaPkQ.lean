/-
  Contract of the law's packed.
-/
import Derived.Test.YtoaaklhpmhjhkaaPkP
namespace Go.Proofs.Ytoaaklhpmhjhkaa
open Go.RowKit
open Bm

/-- What packed leaves. -/
def PkdPost (M : Mc) (w : World) (e : Ending) (w' : World) : Prop := ∃ (T : Tb) (A : TbA) (c : Int), ResIs M T c ∧ e = .returned (.tuple #[.agg (A.cells T), .bool true]) ∧ Own6 w.heap.size T A w' ∧ Below w.heap.size w w'

set_option maxRecDepth 100000 in
set_option maxHeartbeats 8000000 in
theorem packed_any (M : Mc) (A : McA) (w : World) (hs : McSz M) (hI : McIn M A w) : Calls Try.prog 23 #[.agg (A.cells M)] w (PkdPost M w) := by
  have hz := zero_tables
  obtain ⟨W0, hW0⟩ : ∃ W, W = w.alloc (.cells (A.cells M) 49) := ⟨_, rfl⟩
  obtain ⟨W1, hW1⟩ : ∃ W, W = W0.alloc (.cells #[.int .i64 0, .slice none 0 0, .slice none 0 0, .slice none 0 0, .slice none 0 0, .slice none 0 0, .slice none 0 0] 26) := ⟨_, rfl⟩
  have x0 : Below w.heap.size w W0 := by rw [hW0]; exact bel_box _ _
  have x1 : Below W0.heap.size W0 W1 := by rw [hW1]; exact bel_box _ _
  have z0 : W0.heap.size = w.heap.size + 1 := by rw [hW0]; simp
  have z1 : W1.heap.size = w.heap.size + 2 := by rw [hW1]; simp [z0]
  have hT1 : W1.there (w.heap.size + 1) 0 7 := by rw [← z0, hW1]; exact zeroT_there W0 _
  have x2 := x0.trans (x1.mono x0.size)
  have hA1 : McAt w.heap.size M A W1 := by
    have h : McAt w.heap.size M A W0 := by rw [hW0]; exact McAt.boxed M A w _
    exact h.below x1
  have HH : Hid (Calls Try.prog 50 #[.agg (A.cells M)] W1 fun e w' => ∃ g1 g2 g3, e = .returned (.agg ((hmA M g1 g2 g3).cells M)) ∧ HM M g1 g2 g3 w' ∧ (W1.heap.size ≤ g1 ∧ g1 < g2 ∧ g2 < g3) ∧ Below W1.heap.size W1 w') := handedMachine_any M A W1 hs (hI.below x2)
  obtain ⟨d0, d1, d2, d3⟩ := hA1
  have HA1 : Hid (McAt w.heap.size M A W1) := ⟨d0, d1, d2, d3⟩
  have HX : Hid (Below w.heap.size w W1) := x2
  have Hz1 : Hid (W1.heap.size = w.heap.size + 2) := z1
  have HI : Hid (McIn M A w) := hI
  have Hsz : Hid (McSz M) := hs
  have HT1 : Hid (W1.there (w.heap.size + 1) 0 7) := hT1
  rw [hW0] at hW1
  rw [hW1] at d0 d1 d2 d3
  unfold McA.cells at hW1 HH d0 d1 d2 d3 ⊢
  clear x0 x1 z0 hW0 hI hs x2 z1 hT1
  go_enter Try.func23, Try.ntmps23
  go_wp2_with fail
  rw [← hW1]
  clear hW1 d0 d1 d2 d3
  refine HH.out.mono ?_
  rintro e w2 ⟨g1, g2, g3, rfl, hH2, hg, hB2⟩
  clear HH
  -- the machine that is handed in
  obtain ⟨W3, hW3⟩ : ∃ W, W = w2.alloc (.cells ((hmA M g1 g2 g3).cells M) 49) := ⟨_, rfl⟩
  have x3 : Below w2.heap.size w2 W3 := by rw [hW3]; exact bel_box _ _
  have z3 : W3.heap.size = w2.heap.size + 1 := by rw [hW3]; simp
  have a3 : McAt w2.heap.size M (hmA M g1 g2 g3) W3 := by rw [hW3]; exact McAt.boxed M _ w2 _
  have b3 := hB2.trans (x3.mono hB2.size)
  have hH3 := hH2.below x3
  have HPk : Hid (Calls Try.prog 51 #[.agg ((hmA M g1 g2 g3).cells M)] W3 (PackPost M W3)) := munchPack_any M _ W3 Hsz.out hH3.in_
  have HH3 : Hid (HM M g1 g2 g3 W3) := hH3
  have Ha3 : Hid (McAt w2.heap.size M (hmA M g1 g2 g3) W3) := a3
  have Hb3 : Hid (Below W1.heap.size W1 W3) := b3
  have l3 := hH2.r3.lt (by omega)
  have Hz3 : Hid (W3.heap.size = w2.heap.size + 1 ∧ g3 < w2.heap.size) := ⟨z3, l3⟩
  have Hg : Hid (W1.heap.size ≤ g1 ∧ g1 < g2 ∧ g2 < g3) := hg
  obtain ⟨d0, d1, d2, d3⟩ := a3
  unfold McA.cells at hW3 HPk
  simp only [hmA] at hW3 HPk d0 d1 d2 d3 ⊢
  rw [hW3] at d0 d1 d2 d3
  clear x3 z3 b3 hH3 hH2 hB2 l3 hg
  go_wp2_with fail
  rw [← hW3]
  clear hW3 d0 d1 d2 d3
  refine HPk.out.mono ?_
  intro e w4 hPP
  obtain ⟨T, A4, c, hR, rfl, hO4, hB4⟩ := hPP.own
  clear HPk hPP
  -- its tables
  obtain ⟨W5, hW5⟩ : ∃ W, W = w4.alloc (.cells (A4.cells T) 26) := ⟨_, rfl⟩
  have x5 : Below w4.heap.size w4 W5 := by rw [hW5]; exact bel_box _ _
  have z5 : W5.heap.size = w4.heap.size + 1 := by rw [hW5]; simp
  have t5 : TbAt w4.heap.size T A4 W5 := by rw [hW5]; exact TbAt.boxed T A4 w4 _
  have b35 := hB4.trans (x5.mono hB4.size)
  have b15 := Hb3.out.trans (b35.mono Hb3.out.size)
  have bw5 := HX.out.trans (b15.mono HX.out.size)
  have hO5 := hO4.below x5
  have m5 := HA1.out.below b15
  have HRf : Hid (Calls Try.prog 24 #[.agg (A.cells M)] W5 (RefPost M W5)) := refPack_any M A W5 Hsz.out (HI.out.below bw5)
  have Hx : Hid (Below W3.heap.size W3 W5 ∧ Below W1.heap.size W1 W5 ∧ Below w.heap.size w W5 ∧ W5.heap.size = w4.heap.size + 1 ∧ W3.heap.size ≤ w4.heap.size) := ⟨b35, b15, bw5, z5, hB4.size⟩
  have HO5 : Hid (Own6 W3.heap.size T A4 W5) := hO5
  have Ht5 : Hid (TbAt w4.heap.size T A4 W5) := t5
  have HR : Hid (ResIs M T c) := hR
  obtain ⟨d0, d1, d2, d3⟩ := m5
  unfold TbA.cells at hW5 ⊢
  unfold McA.cells at HRf
  rw [hW5] at d0 d1 d2 d3
  clear x5 z5 b35 b15 bw5 hO5 hO4 hB4 hR t5
  go_wp2_with fail
  rw [← hW5]
  clear hW5 d0 d1 d2 d3
  refine HRf.out.mono ?_
  intro e w6 hRP
  obtain ⟨T', A6, c', hR', rfl, hF6, hB6⟩ := hRP.own
  obtain ⟨eT, eC⟩ := HR.out.uniq hR'
  subst eT
  subst eC
  clear HRf hRP hR'
  obtain ⟨W7, hW7⟩ : ∃ W, W = w6.alloc (.cells (A6.cells T') 26) := ⟨_, rfl⟩
  have x7 : Below w6.heap.size w6 W7 := by rw [hW7]; exact bel_box _ _
  have z7 : W7.heap.size = w6.heap.size + 1 := by rw [hW7]; simp
  have t7 : TbAt w6.heap.size T' A6 W7 := by rw [hW7]; exact TbAt.boxed T' A6 w6 _
  have b57 := hB6.trans (x7.mono hB6.size)
  obtain ⟨y35, y15, yw5, yz5, yz3⟩ := Hx.out
  have b37 := y35.trans (b57.mono y35.size)
  have b17 := y15.trans (b57.mono y15.size)
  have bw7 := yw5.trans (b57.mono yw5.size)
  have HSt : Hid (Calls Try.prog 52 #[.agg ((hmA M g1 g2 g3).cells M), .agg (A.cells M)] W7 fun e w' => e = .returned (.bool true) ∧ Below W7.heap.size W7 w') := stillMachine_any M A g1 g2 g3 W7 Hsz.out (HH3.out.below b37) (HI.out.below bw7)
  have HFm : Hid (∀ w', Below W7.heap.size W7 w' → Calls Try.prog 53 #[.agg ((hmA M g1 g2 g3).cells M)] w' fun e w'' => e = .returned (.tuple #[]) ∧ Below W1.heap.size w' w'' ∧ (∀ q, q < w'.heap.size → q ≠ g1 → q ≠ g2 → q ≠ g3 → w''.heap[q]? = w'.heap[q]?) ∧ w'.heap.size ≤ w''.heap.size) := fun w' h' => fullMachine_any M g1 g2 g3 W1.heap.size w' Hsz.out ((HH3.out.below b37).below h') Hg.out (Nat.le_trans b17.size h'.size)
  have HMh : Hid (∀ w', Below W7.heap.size W7 w' → McAt w2.heap.size M (hmA M g1 g2 g3) w' ∧ McAt w.heap.size M A w') := fun w' h' => ⟨(Ha3.out.below b37).below h', (HA1.out.below b17).below h'⟩
  have HY : Hid (Below W5.heap.size W5 W7 ∧ Below W1.heap.size W1 W7 ∧ Below w.heap.size w W7 ∧ W7.heap.size = w6.heap.size + 1 ∧ W5.heap.size ≤ w6.heap.size) := ⟨b57, b17, bw7, z7, hB6.size⟩
  have HF7 : Hid (TbF W5.heap.size T' A6 W7) := hF6.below x7
  have Ht7 : Hid (TbAt w6.heap.size T' A6 W7) := t7
  obtain ⟨d0, d1, d2, d3⟩ := (HMh.out W7 (Below.refl _ _)).1
  obtain ⟨f0, f1, f2, f3⟩ := (HMh.out W7 (Below.refl _ _)).2
  unfold TbA.cells at hW7 ⊢
  unfold McA.cells at HSt HFm
  simp only [hmA] at HSt HFm d0 d1 d2 d3
  rw [hW7] at d0 d1 d2 d3 f0 f1 f2 f3
  clear x7 z7 b57 y35 y15 yw5 yz5 yz3 b37 b17 bw7 hF6 hB6 t7
  go_wp2_with fail
  rw [← hW7]
  clear hW7 d0 d1 d2 d3 f0 f1 f2 f3
  refine HSt.out.mono ?_
  rintro e w8 ⟨rfl, hB8⟩
  clear HSt
  obtain ⟨d0, d1, d2, d3⟩ := (HMh.out w8 hB8).1
  simp only [hmA] at d0 d1 d2 d3
  go_wp2_with fail
  clear d0 d1 d2 d3
  refine (HFm.out w8 hB8).mono ?_
  rintro e w9 ⟨rfl, hB9, hk9, hz9⟩
  clear HFm
  -- what is left
  obtain ⟨y57, y17, yw7, yz7, yz5⟩ := HY.out
  obtain ⟨y35, y15, yw5, yz4, yz3⟩ := Hx.out
  obtain ⟨q1, q2, q3⟩ := Hg.out
  obtain ⟨q4, q5⟩ := Hz3.out
  have e78 := hB8.size
  have kk : ∀ q, W3.heap.size ≤ q → q < W7.heap.size → w9.heap[q]? = W7.heap[q]? := fun q h1 h2 => by
    rw [hk9 q (by omega) (by omega) (by omega) (by omega), hB8.block q h2]
  have t59 : TbAt w4.heap.size T' A4 w9 := (Ht5.out.below y57).blk (kk _ (by omega) (by omega))
  have t79 : TbAt w6.heap.size T' A6 w9 := Ht7.out.blk (kk _ (by omega) (by omega))
  have hO9 : Own6 W3.heap.size T' A4 w9 := (HO5.out.below y57).keep (by omega) (fun q h1 h2 => kk q h1 h2)
  have i49 : TbIn T' A4 w9 := hO9.1.in_
  have i69 : TbIn T' A6 w9 := HF7.out w9 (by omega) (fun q h1 h2 => kk q (by omega) h2)
  have hth9 : w9.there (w.heap.size + 1) 0 7 := by
    have hz1 := Hz1.out
    have h8 : w8.there (w.heap.size + 1) 0 7 := there_below (there_below HT1.out (by omega) y17) (by omega) hB8
    exact there_blk h8 (hk9 _ (by omega) (by omega) (by omega) (by omega))
  have hbw9 : Below w.heap.size w w9 := (yw7.trans (hB8.mono yw7.size)).trans (hB9.mono HX.out.size)
  have HSa : Hid (Calls Try.prog 15 #[.agg (A4.cells T'), .agg (A6.cells T')] w9 fun e w' => e = .returned (.bool true) ∧ Below w9.heap.size w9 w') := sameTables_any T' A4 A6 w9 HR.out.sz i49 i69
  have HO9 : Hid (Own6 W3.heap.size T' A4 w9) := hO9
  have Ht9 : Hid (TbAt w4.heap.size T' A4 w9) := t59
  have Hth9 : Hid (w9.there (w.heap.size + 1) 0 7) := hth9
  have Hbw9 : Hid (Below w.heap.size w w9 ∧ w.heap.size + 2 ≤ W3.heap.size) := ⟨hbw9, by have := Hz1.out; have := Hb3.out.size; omega⟩
  obtain ⟨d0, d1, d2, d3, d4, d5, d6⟩ := t59
  obtain ⟨f0, f1, f2, f3, f4, f5, f6⟩ := t79
  unfold TbA.cells at HSa
  clear y57 y17 yw7 yz7 yz5 y35 y15 yw5 yz4 yz3 q1 q2 q3 q4 q5 e78 kk hO9 i49 i69 hth9 hbw9 hB8 hB9 hk9 hz9
  go_wp2_with fail
  clear d0 d1 d2 d3 d4 d5 d6 f0 f1 f2 f3 f4 f5 f6
  refine HSa.out.mono ?_
  rintro e w10 ⟨rfl, hB10⟩
  clear HSa
  have hth := there_below Hth9.out (by omega) hB10
  have t10 := Ht9.out.below hB10
  obtain ⟨W11, hW11⟩ : ∃ W, W = w10.setCells (w.heap.size + 1) 0 (A4.cells T').toList := ⟨_, rfl⟩
  have hl11 : (loadVar 26 ⟨w.heap.size + 1, 0, none⟩).run Try.prog W11 = .ok (.agg (A4.cells T')) W11 := by
    rw [hW11]
    exact run_loadVar_mid (P := Try.prog) _ (w.heap.size + 1) 0 26 (A4.cells T').toList _ (World.rangeAt_setCells_same w10 (w.heap.size + 1) 0 (A4.cells T').toList hth) Try.underlying26 rfl info_tables
  have hg11 := setCells_grown (w.heap.size + 1) (A4.cells T').toList 0 w10
  rw [← hW11] at hg11
  have hp11 : PkdPost M w (.returned (.tuple #[.agg (A4.cells T'), .bool true])) W11 := by
    obtain ⟨hbw, hw3⟩ := Hbw9.out
    have hb10 := hbw.trans (hB10.mono hbw.size)
    refine ⟨T', A4, _, HR.out, rfl, ?_, hb10.grown hg11 hb10.size (fun q hq => by cases hq; exact Nat.le_succ _)⟩
    refine ((HO9.out.below hB10).keep hg11.size (fun q h1 h2 => hg11.block q h2 (fun e => ?_))).mono (by omega)
    have := Option.some.inj e
    omega
  have HP11 : Hid (PkdPost M w (.returned (.tuple #[.agg (A4.cells T'), .bool true])) W11) := hp11
  have HW11 : Hid (W11 = w10.setCells (w.heap.size + 1) 0 (A4.cells T').toList) := hW11
  have HL11 : Hid ((loadVar 26 ⟨w.heap.size + 1, 0, none⟩).run Try.prog W11 = .ok (.agg (A4.cells T')) W11) := hl11
  have hrg : w10.rangeAt w4.heap.size 0 (A4.cells T').toList := by
    obtain ⟨d0, d1, d2, d3, d4, d5, d6⟩ := t10
    intro k v hv
    rw [Nat.zero_add]
    rcases k with _ | _ | _ | _ | _ | _ | _ | k
    · cases hv; exact d0
    · cases hv; exact d1
    · cases hv; exact d2
    · cases hv; exact d3
    · cases hv; exact d4
    · cases hv; exact d5
    · cases hv; exact d6
    · simp [TbA.cells] at hv
  have hone : (A4.cells T').all (·.oneCell') = true := by simp [TbA.cells, Value.oneCell']
  clear hp11 hW11 hl11 hg11 t10 hB10
  go_wp2_with (first
    | (refine wpList_load_mid rfl 26 _ rfl w4.heap.size 0 rfl (A4.cells T').toList _ hrg Try.underlying26 rfl info_tables ?_)
    | (refine wpList_store_mid rfl 26 _ _ rfl (w.heap.size + 1) 0 (A4.cells T') rfl rfl hth info_tables hone ?_; rw [← HW11.out]))
  refine bodyPost_ret (v := .tuple #[.agg (A4.cells T'), .bool true]) (eResults_load2 Try.results23 rfl HL11.out rfl) rfl HP11.out
end Go.Proofs.Ytoaaklhpmhjhkaa
