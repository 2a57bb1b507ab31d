/-
  The law's full and reads over lists with room; fullTables, filled over such.
-/
import Derived.Test.YtoaaklhpmhjhkaaPkK
import Derived.Test.YtoaaklhpmhjhkaaLdM
namespace Go.Proofs.Ytoaaklhpmhjhkaa
open Go.RowKit
open Bm

/-- A list with its room: c cells at g, that may be written over. -/
def Rm (v : Value) (g c : Nat) (w : World) : Prop := ∃ n, n ≤ c ∧ c ≤ maxLen ∧ ((v = .slice none 0 0 ∧ n = 0 ∧ c = 0) ∨ v = .slice (some ⟨g, 0, none⟩) n c) ∧ w.there g 0 c
theorem Rm.blk {v : Value} {g c : Nat} {w w' : World} (h : Rm v g c w) (hb : 0 < c → w'.heap[g]? = w.heap[g]?) : Rm v g c w' := by
  obtain ⟨n, h1, h2, h3, h4⟩ := h
  refine ⟨n, h1, h2, h3, ?_⟩
  rcases Nat.eq_zero_or_pos c with e | e
  · intro j hj; omega
  · exact there_blk h4 (hb e)
theorem Rm.lt {v : Value} {g c : Nat} {w : World} (h : Rm v g c w) (hc : 0 < c) : g < w.heap.size := by
  obtain ⟨n, h1, h2, h3, h4⟩ := h
  exact there_lt h4 hc
theorem Rm.below {v : Value} {g c : Nat} {w w' : World} (h : Rm v g c w) (hW : Below w.heap.size w w') : Rm v g c w' := h.blk (fun hc => hW.block g (h.lt hc))
theorem Bm.OwnL.rm {B : Nat} {v : Value} {l : List Int} {w : World} (h : OwnL B v l w) : ∃ g c, Rm v g c w ∧ (0 < c → v.ownBlock = some g) := by
  rcases h.2 with ⟨rfl, h0⟩ | ⟨g, cap, cur, rfl, h1, h2, h3, h4, h5, h6⟩
  · exact ⟨0, 0, ⟨0, by omega, by omega, Or.inl ⟨rfl, rfl, rfl⟩, fun j hj => by omega⟩, fun h => by omega⟩
  · refine ⟨g, cap, ⟨l.length, h3, h4, Or.inr rfl, fun j hj => ?_⟩, fun _ => rfl⟩
    rw [Nat.zero_add, cell_of_row w g j cur _ (0, 0) h2]
    refine ⟨by simp; omega, ?_⟩
    simp [World.frozen?, h2]
theorem NRow.rm {g : Nat} {f : Nat → Int} {n c : Nat} {w : World} (h : NRow g f c w) (hn : n ≤ c) (hc : c ≤ maxLen) : Rm (.slice (some ⟨g, 0, none⟩) n c) g c w :=
  ⟨n, hn, hc, Or.inr rfl, fun j hj => by rw [Nat.zero_add, (h j hj).1]; exact ⟨rfl, (h j hj).2⟩⟩

set_option maxHeartbeats 1000000 in
theorem fullR_any (v : Value) (g c : Nat) (x : Int) (w : World) (h : Rm v g c w) :
    Calls Try.prog 46 #[v, .int .i64 x] w fun e w' => e = .returned (.tuple #[]) ∧ NRow g (fun _ => x) c w' ∧ w.grownBy w' (if c = 0 then none else some g) ∧ w'.heap.size = w.heap.size := by
  obtain ⟨n, hn, hc, hv, hth⟩ := h
  rcases hv with ⟨rfl, rfl, rfl⟩ | rfl
  · go_enter Try.func46, Try.ntmps46
    go_wp2_with fail
    go_loopw [5] (fun i w' => i = .int .i64 0 ∧ w' = w) (fun _ _ => 0)
    case atStart => exact ⟨rfl, rfl⟩
    case round =>
      obtain ⟨rfl, rfl⟩ := hrel
      go_wp2_with fail
      go_end0
      exact ⟨rfl, fun k hk => by omega, grown_refl _ _, rfl⟩
  · unfold maxLen at hc
    have hc' : (c : Int) ≤ 9223372036854775807 := by omega
    obtain ⟨row, hrow⟩ : ∃ row : Option Nat, row = if c = 0 then none else some g := ⟨_, rfl⟩
    have Hrow : Hid (0 < c → row = some g) := fun h => by rw [hrow, if_neg (by omega)]
    rw [← hrow]
    clear hrow
    go_enter Try.func46, Try.ntmps46
    go_wp2_with fail
    go_loopw [5] (fun i w' => ∃ k : Nat, k ≤ c ∧ i = .int .i64 k ∧ NRow g (fun _ => x) k w' ∧ w'.there g 0 c ∧ w.grownBy w' row ∧ w'.heap.size = w.heap.size) (fun i _ => c - (intOf i).toNat)
    case atStart => exact ⟨0, by omega, rfl, fun k hk => by omega, hth, grown_refl _ _, rfl⟩
    case round =>
      clear hth
      obtain ⟨k, hk, rfl, hR2, hth, hG, hS⟩ := hrel
      by_cases hlt : k < c
      · obtain ⟨h1, h2⟩ := hth k hlt
        rw [Nat.zero_add] at h1 h2
        obtain ⟨y, hy⟩ := Option.isSome_iff_exists.1 h1
        have hlt' : (k : Int) < (c : Int) := by omega
        have HT : Hid ((wr.setCell ⟨g, k, none⟩ (.int .i64 x)).there g 0 c) := fun j hj => by
          obtain ⟨j1, j2⟩ := hth j hj
          rw [World.frozen?_setCell]
          refine ⟨?_, j2⟩
          by_cases e : j = k
          · subst e
            rw [Nat.zero_add, World.cell?_setCell_same _ _ _ (by rw [hy])]; rfl
          · rw [World.cell?_setCell_other _ _ _ _ (by intro he; have := congrArg Addr.off he; simp at this; omega)]; exact j1
        have HR : Hid (NRow g (fun _ => x) (k + 1) (wr.setCell ⟨g, k, none⟩ (.int .i64 x))) := fun j hj => by
          rw [World.frozen?_setCell]
          by_cases e : j = k
          · subst e
            rw [World.cell?_setCell_same _ _ _ (by rw [hy])]; exact ⟨rfl, h2⟩
          · rw [World.cell?_setCell_other _ _ _ _ (by intro he; have := congrArg Addr.off he; simp at this; omega)]; exact hR2 j (by omega)
        have HG : Hid (w.grownBy (wr.setCell ⟨g, k, none⟩ (.int .i64 x)) row) := by
          show w.grownBy _ _
          rw [Hrow.out (by omega)] at hG ⊢
          exact grown_trans hG (setCells_grown g [.int .i64 x] k _)
        clear hth hR2 hG h1
        go_wp2_with fail
        go_roundw
        case rel => exact ⟨k + 1, by omega, by go_num, HR.out, HT.out, HG.out, by simp [World.setCell]; exact hS⟩
        case measure => simp [intOf]; omega
      · have hge : ¬ (k : Int) < (c : Int) := by omega
        have hkc : k = c := by omega
        subst hkc
        go_wp2_with fail
        go_end0
        exact ⟨rfl, hR2, hG, hS⟩

set_option maxHeartbeats 1000000 in
theorem readsR_any (v : Value) (g c : Nat) (x : Int) (w : World) (h : Rm v g c w) (hR : NRow g (fun _ => x) c w) :
    Calls Try.prog 47 #[v, .int .i64 x] w fun e w' => e = .returned (.bool true) ∧ w' = w := by
  obtain ⟨n, hn, hc, hv, hth⟩ := h
  clear hth
  unfold maxLen at hc
  have hc' : (c : Int) ≤ 9223372036854775807 := by omega
  rcases hv with ⟨rfl, rfl, rfl⟩ | rfl
  · go_enter Try.func47, Try.ntmps47
    go_wp2_with fail
    go_loopw [6] (fun i w' => i = .int .i64 0 ∧ w' = w) (fun _ _ => 0)
    case atStart => exact ⟨rfl, rfl⟩
    case round =>
      obtain ⟨rfl, rfl⟩ := hrel
      go_wp2_with fail
      go_ret
      exact ⟨rfl, rfl⟩
  · go_enter Try.func47, Try.ntmps47
    go_wp2_with fail
    go_loopw [6] (fun i w' => ∃ k : Nat, k ≤ c ∧ i = .int .i64 k ∧ w' = w) (fun i _ => c - (intOf i).toNat)
    case atStart => exact ⟨0, by omega, rfl, rfl⟩
    case round =>
      obtain ⟨k, hk, rfl, rfl⟩ := hrel
      by_cases hlt : k < c
      · obtain ⟨hcc, hff⟩ := hR k hlt
        have hlt' : (k : Int) < (c : Int) := by omega
        go_wp2_with fail
        go_roundw
        case rel => exact ⟨k + 1, by omega, by go_num, trivial⟩
        case measure => simp [intOf]; omega
      · have hge : ¬ (k : Int) < (c : Int) := by omega
        go_wp2_with fail
        go_ret
        exact ⟨rfl, rfl⟩
/-- Six lists with their room. -/
structure SixR (vv : Nat → Value) (G C : Nat → Nat) (w : World) : Prop where
  r : ∀ i, 1 ≤ i → i ≤ 6 → Rm (vv i) (G i) (C i) w
  ap : ∀ i j, 1 ≤ i → i ≤ 6 → 1 ≤ j → j ≤ 6 → i ≠ j → 0 < C i → 0 < C j → G i ≠ G j
theorem SixR.below {vv : Nat → Value} {G C : Nat → Nat} {w w' : World} (h : SixR vv G C w) (hW : Below w.heap.size w w') : SixR vv G C w' := ⟨fun i h1 h2 => (h.r i h1 h2).below hW, h.ap⟩
def sixC (r : Int) (vv : Nat → Value) : Array Value := #[.int .i64 r, vv 1, vv 2, vv 3, vv 4, vv 5, vv 6]
/-- What fullTables has at hand, k lists being full. -/
structure FR (vv : Nat → Value) (G C : Nat → Nat) (B bx k : Nat) (r : Int) (w W : World) : Prop where
  t : TC bx (sixC r vv).toList W
  six : SixR vv G C W
  full : ∀ i, 1 ≤ i → i ≤ 6 → i ≤ k → NRow (G i) (fun _ => 7777776 + (i : Int)) (C i) W
  bel : Below B w W
  low : ∀ i, 1 ≤ i → i ≤ 6 → 0 < C i → G i < bx
  sz : W.heap.size = bx + 1
  kept : ∀ q, q < bx → (∀ i, 1 ≤ i → i ≤ 6 → 0 < C i → q ≠ G i) → W.heap[q]? = w.heap[q]?
theorem FR.next {vv : Nat → Value} {G C : Nat → Nat} {B bx k : Nat} {r : Int} {w W W' : World} (h : FR vv G C B bx k r w W) (hk1 : 1 ≤ k + 1) (hk2 : k + 1 ≤ 6) (hB : ∀ i, 1 ≤ i → i ≤ 6 → 0 < C i → B ≤ G i) (hBx : B ≤ bx)
    (hn : NRow (G (k + 1)) (fun _ => 7777776 + ((k + 1 : Nat) : Int)) (C (k + 1)) W') (hg : W.grownBy W' (if C (k + 1) = 0 then none else some (G (k + 1)))) (hz : W'.heap.size = W.heap.size) : FR vv G C B bx (k + 1) r w W' := by
  have hs := h.sz
  have kp : ∀ q, q < W.heap.size → (0 < C (k + 1) → q ≠ G (k + 1)) → W'.heap[q]? = W.heap[q]? := fun q hq hne => hg.block q hq (by
    by_cases e : C (k + 1) = 0
    · rw [if_pos e]; simp
    · rw [if_neg e]
      intro e2
      exact hne (by omega) (Option.some.inj e2))
  have lw := h.low
  refine ⟨h.t.block (kp bx (by omega) (fun hc => by have := lw (k + 1) hk1 hk2 hc; omega)), ⟨fun i i1 i2 => ?_, h.six.ap⟩, fun i i1 i2 i3 => ?_, ?_, lw, by rw [hz, hs], fun q hq hne => ?_⟩
  · by_cases e : i = k + 1
    · subst e
      obtain ⟨n, r1, r2, r3, r4⟩ := h.six.r (k + 1) i1 i2
      exact ⟨n, r1, r2, r3, fun j hj => by rw [Nat.zero_add, (hn j hj).1]; exact ⟨rfl, (hn j hj).2⟩⟩
    · exact (h.six.r i i1 i2).blk (fun hc => kp (G i) (by have := lw i i1 i2 hc; omega) (fun hc2 => h.six.ap i (k + 1) i1 i2 hk1 hk2 e hc hc2))
  · by_cases e : i = k + 1
    · subst e; exact hn
    · have hf := h.full i i1 i2 (by omega)
      intro j hj
      have hc : 0 < C i := by omega
      exact (hf.block (kp (G i) (by have := lw i i1 i2 hc; omega) (fun hc2 => h.six.ap i (k + 1) i1 i2 hk1 hk2 e hc hc2))) j hj
  · exact h.bel.grown hg (by omega) (fun q hq => by
      by_cases e : C (k + 1) = 0
      · rw [if_pos e] at hq; cases hq
      · rw [if_neg e] at hq; cases hq; exact hB (k + 1) hk1 hk2 (by omega))
  · rw [kp q (by omega) (fun hc => hne (k + 1) hk1 hk2 hc), h.kept q hq hne]

set_option maxRecDepth 100000 in
set_option maxHeartbeats 4000000 in
theorem fullTablesR_any (r : Int) (vv : Nat → Value) (G C : Nat → Nat) (B : Nat) (w : World) (h : SixR vv G C w) (hB : ∀ i, 1 ≤ i → i ≤ 6 → 0 < C i → B ≤ G i) (hBw : B ≤ w.heap.size) :
    Calls Try.prog 16 #[.agg (sixC r vv)] w fun e w' => e = .returned (.tuple #[]) ∧ SixR vv G C w' ∧ (∀ i, 1 ≤ i → i ≤ 6 → NRow (G i) (fun _ => 7777776 + (i : Int)) (C i) w') ∧ Below B w w' ∧ (∀ q, q < w.heap.size → (∀ i, 1 ≤ i → i ≤ 6 → 0 < C i → q ≠ G i) → w'.heap[q]? = w.heap[q]?) ∧ w.heap.size ≤ w'.heap.size := by
  obtain ⟨W, hW⟩ : ∃ W, W = w.alloc (.cells (sixC r vv) 26) := ⟨_, rfl⟩
  have S0 : FR vv G C B w.heap.size 0 r w W := by
    rw [hW]
    exact ⟨TC.boxed w (sixC r vv).toList _, h.below (box_bel _ _), fun i i1 _ i3 => by omega, (box_bel _ _).mono hBw, fun i i1 i2 hc => (h.r i i1 i2).lt hc, by simp, fun q hq _ => (box_bel w _).block q hq⟩
  have HN : Hid (∀ k W W', FR vv G C B w.heap.size k r w W → 1 ≤ k + 1 → k + 1 ≤ 6 → NRow (G (k + 1)) (fun _ => 7777776 + ((k + 1 : Nat) : Int)) (C (k + 1)) W' → W.grownBy W' (if C (k + 1) = 0 then none else some (G (k + 1))) → W'.heap.size = W.heap.size → FR vv G C B w.heap.size (k + 1) r w W') := fun k W W' hh h1 h2 h3 h4 h5 => hh.next h1 h2 hB hBw h3 h4 h5
  unfold sixC at hW ⊢
  have p1 := (S0.t 1 _ rfl).1
  rw [hW] at p1
  clear h hB
  go_enter Try.func16, Try.ntmps16
  go_wp2_with fail
  rw [← hW]
  clear hW p1
  refine Calls.mono (fullR_any (vv 1) (G 1) (C 1) 7777777 _ (S0.six.r 1 (by omega) (by omega))) ?_
  rintro e w1 ⟨rfl, n1, g1, z1⟩
  have S1 := HN.out 0 _ _ S0 (by omega) (by omega) n1 g1 z1
  clear n1 g1 z1 S0
  have p1 := (S1.t 2 _ rfl).1
  go_wp2_with fail
  clear p1
  refine Calls.mono (fullR_any (vv 2) (G 2) (C 2) 7777778 _ (S1.six.r 2 (by omega) (by omega))) ?_
  rintro e w2 ⟨rfl, n2, g2, z2⟩
  have S2 := HN.out 1 _ _ S1 (by omega) (by omega) n2 g2 z2
  clear n2 g2 z2 S1
  have p1 := (S2.t 3 _ rfl).1
  go_wp2_with fail
  clear p1
  refine Calls.mono (fullR_any (vv 3) (G 3) (C 3) 7777779 _ (S2.six.r 3 (by omega) (by omega))) ?_
  rintro e w3 ⟨rfl, n3, g3, z3⟩
  have S3 := HN.out 2 _ _ S2 (by omega) (by omega) n3 g3 z3
  clear n3 g3 z3 S2
  have p1 := (S3.t 4 _ rfl).1
  go_wp2_with fail
  clear p1
  refine Calls.mono (fullR_any (vv 4) (G 4) (C 4) 7777780 _ (S3.six.r 4 (by omega) (by omega))) ?_
  rintro e w4 ⟨rfl, n4, g4, z4⟩
  have S4 := HN.out 3 _ _ S3 (by omega) (by omega) n4 g4 z4
  clear n4 g4 z4 S3
  have p1 := (S4.t 5 _ rfl).1
  go_wp2_with fail
  clear p1
  refine Calls.mono (fullR_any (vv 5) (G 5) (C 5) 7777781 _ (S4.six.r 5 (by omega) (by omega))) ?_
  rintro e w5 ⟨rfl, n5, g5, z5⟩
  have S5 := HN.out 4 _ _ S4 (by omega) (by omega) n5 g5 z5
  clear n5 g5 z5 S4
  have p1 := (S5.t 6 _ rfl).1
  go_wp2_with fail
  clear p1
  refine Calls.mono (fullR_any (vv 6) (G 6) (C 6) 7777782 _ (S5.six.r 6 (by omega) (by omega))) ?_
  rintro e w6 ⟨rfl, n6, g6, z6⟩
  have S6 := HN.out 5 _ _ S5 (by omega) (by omega) n6 g6 z6
  clear n6 g6 z6 S5
  go_wp2_with fail
  go_end0
  have hz := S6.sz
  exact ⟨rfl, S6.six, fun i i1 i2 => S6.full i i1 i2 i2, S6.bel, S6.kept, by omega⟩

set_option maxRecDepth 100000 in
set_option maxHeartbeats 4000000 in
theorem filledR_any (r : Int) (vv : Nat → Value) (G C : Nat → Nat) (w : World) (h : SixR vv G C w) (hf : ∀ i, 1 ≤ i → i ≤ 6 → NRow (G i) (fun _ => 7777776 + (i : Int)) (C i) w) :
    Calls Try.prog 17 #[.agg (sixC r vv)] w fun e w' => e = .returned (.bool true) ∧ Below w.heap.size w w' := by
  obtain ⟨W, hW⟩ : ∃ W, W = w.alloc (.cells (sixC r vv) 26) := ⟨_, rfl⟩
  have x0 : Below w.heap.size w W := by rw [hW]; exact box_bel _ _
  have t0 : TC w.heap.size (sixC r vv).toList W := by rw [hW]; exact TC.boxed w (sixC r vv).toList _
  have HR : Hid (∀ (i : Nat) (x : Int), 1 ≤ i → i ≤ 6 → x = 7777776 + (i : Int) → Calls Try.prog 47 #[vv i, .int .i64 x] W fun e w' => e = .returned (.bool true) ∧ w' = W) := fun i x i1 i2 hx => by
    subst hx
    exact readsR_any (vv i) (G i) (C i) _ W ((h.r i i1 i2).below x0) ((hf i i1 i2).below x0)
  have p1 := (t0 1 _ rfl).1
  have p2 := (t0 2 _ rfl).1
  have p3 := (t0 3 _ rfl).1
  have p4 := (t0 4 _ rfl).1
  have p5 := (t0 5 _ rfl).1
  have p6 := (t0 6 _ rfl).1
  unfold sixC at hW ⊢
  rw [hW] at p1
  clear h hf t0
  go_enter Try.func17, Try.ntmps17
  go_wp2_with fail
  rw [← hW]
  clear hW p1
  refine Calls.mono (HR.out 1 7777777 (by omega) (by omega) (by omega)) ?_
  rintro e W ⟨rfl, rfl⟩
  go_wp2_with fail
  refine Calls.mono (HR.out 2 7777778 (by omega) (by omega) (by omega)) ?_
  rintro e W ⟨rfl, rfl⟩
  go_wp2_with fail
  refine Calls.mono (HR.out 3 7777779 (by omega) (by omega) (by omega)) ?_
  rintro e W ⟨rfl, rfl⟩
  go_wp2_with fail
  refine Calls.mono (HR.out 4 7777780 (by omega) (by omega) (by omega)) ?_
  rintro e W ⟨rfl, rfl⟩
  go_wp2_with fail
  refine Calls.mono (HR.out 5 7777781 (by omega) (by omega) (by omega)) ?_
  rintro e W ⟨rfl, rfl⟩
  go_wp2_with fail
  refine Calls.mono (HR.out 6 7777782 (by omega) (by omega) (by omega)) ?_
  rintro e W ⟨rfl, rfl⟩
  go_wp2_with fail
  go_ret
  exact ⟨rfl, x0⟩
end Go.Proofs.Ytoaaklhpmhjhkaa
