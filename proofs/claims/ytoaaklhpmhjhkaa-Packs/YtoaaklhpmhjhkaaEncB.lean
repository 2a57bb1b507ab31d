/-
  Contracts of the law's own helpers over lists of numbers: handed, still, sameInts.
-/
import Derived.Test.YtoaaklhpmhjhkaaEncA
namespace Go.Proofs.Ytoaaklhpmhjhkaa
open Go.RowKit

/-- n noughts. -/
def blankI (n : Nat) : Array Value := madeCells #[.int .i64 0] n
theorem blankI_at (n k : Nat) (h : k < n) : (blankI n)[k]? = some (.int .i64 0) := by
  simp [blankI, madeCells, h, Nat.mod_one]
theorem run_blankI (w : World) (n : Nat) (hn : n ≤ 17592186044416) : (Instr.makeSlice 24 (.int .i64 (n : Int)) (.int .i64 (n : Int))).run Try.prog w = .ok (.slice (some ⟨w.heap.size, 0, none⟩) n n) (w.alloc (.cells (blankI n) 3)) := by
  obtain ⟨i, hi, hz, hs, hb⟩ := eInfoInt
  have h := run_make (P := Try.prog) w 24 3 i (.int .i64 0) Try.underlying24 hi hz .i64 .i64 n n (by omega) (by omega) (by rw [hb]; omega) (by omega)
  rw [hs] at h
  simp only [Int.toNat_natCast, Nat.mul_one] at h
  exact h
/-- Numbers that may be written over. -/
def NRow (g : Nat) (f : Nat → Int) (n : Nat) (w : World) : Prop := ∀ k, k < n → w.cell? ⟨g, k, none⟩ = some (.int .i64 (f k)) ∧ w.frozen? ⟨g, k, none⟩ = false
theorem NRow.blank (w : World) (n : Nat) (t : TypeId) : NRow w.heap.size (fun _ => 0) n (w.alloc (.cells (blankI n) t)) := fun k hk => by
  refine ⟨?_, ?_⟩
  · rw [World.cell?_alloc_new]; exact blankI_at n k hk
  · go_simp
theorem NRow.set {g : Nat} {f : Nat → Int} {n : Nat} {w : World} (h : NRow g f n w) (j : Nat) (hj : j < n) (s : Int) : NRow g (fun k => if k = j then s else f k) n (w.setCell ⟨g, j, none⟩ (.int .i64 s)) := fun k hk => by
  obtain ⟨hc, hf⟩ := h k hk
  obtain ⟨hc', hf'⟩ := h j hj
  refine ⟨?_, ?_⟩
  · by_cases e : k = j
    · subst e; simp; go_simp
    · simp only [if_neg e]
      rw [World.cell?_setCell_other _ _ _ _ (by intro he; cases he; exact e rfl)]; exact hc
  · go_simp
theorem NRow.congr {g : Nat} {f f' : Nat → Int} {n : Nat} {w : World} (h : NRow g f n w) (e : ∀ k, k < n → f k = f' k) : NRow g f' n w := fun k hk => by
  rw [← e k hk]; exact h k hk
theorem NRow.lt {g : Nat} {f : Nat → Int} {n : Nat} {w : World} (h : NRow g f n w) (hn : 0 < n) : g < w.heap.size := World.block_lt_of_cell? w ⟨g, 0, none⟩ (h 0 hn).1
theorem NRow.below {g : Nat} {f : Nat → Int} {n : Nat} {w w' : World} (h : NRow g f n w) (hW : Below w.heap.size w w') : NRow g f n w' := fun k hk => by
  have hg := World.block_lt_of_cell? w ⟨g, k, none⟩ (h k hk).1
  rw [hW.cell (p := ⟨g, k, none⟩) hg, hW.frozen (p := ⟨g, k, none⟩) hg]; exact h k hk
theorem NRow.il {g : Nat} {f : Nat → Int} {n m : Nat} {w : World} (h : NRow g f n w) (hm : m ≤ n) : IL (some ⟨g, 0, none⟩) f m w := fun i hi => ⟨g, 0, rfl, by rw [Nat.zero_add]; exact (h i (by omega)).1⟩
/-- The numbers, and behind them the mark. -/
def handedI (f : Nat → Int) (n : Nat) : Nat → Int := fun i => if i < n then f i else 7777777
theorem bel_setCells (B b : Nat) (hb : B ≤ b) : ∀ (vs : List Value) (w : World) (o : Nat), Below B w (w.setCells b o vs)
  | [], _, _ => Below.refl _ _
  | v :: r, w, o => ((Below.refl B w).setCell (p := ⟨b, o, none⟩) hb v).trans (bel_setCells B b hb r _ _)
theorem bel_set (w : World) (b k : Nat) (v : Value) : Below b w (w.setCell ⟨b, k, none⟩ v) :=
  (Below.refl b w).setCell (p := ⟨b, k, none⟩) (Nat.le_refl b) v

theorem bel_drewN (B : Nat) (w : World) (q : Nat) : Below B w (w.drewN q) := ⟨rfl, rfl, rfl, Nat.le_refl _, fun _ _ => rfl⟩

set_option maxHeartbeats 1000000 in
theorem handedI_in (ad : Option Addr) (n cap : Nat) (f : Nat → Int) (w w2 : World) (hn : n + 3 ≤ 17592186044416)
    (hcp : (Builtin.copy_ #[24, 24] 3 #[.slice (some ⟨w.heap.size, 0, none⟩) (n + 3) (n + 3), .slice ad n cap]).run Try.prog (w.alloc (.cells (blankI (n + 3)) 3)) = .ok (goInt n) w2)
    (hW2 : Below w.heap.size w w2) (hR : NRow w.heap.size (fun i => if i < n then f i else 0) (n + 3) w2) :
    Calls Try.prog 67 #[.slice ad n cap] w fun e w' => e = .returned (.slice (some ⟨w.heap.size, 0, none⟩) n (n + 3)) ∧ NRow w.heap.size (handedI f n) (n + 3) w' ∧ Below w.heap.size w w' := by
  have hmk : (Instr.makeSlice 24 (.int .i64 ((n : Int) + 3)) (.int .i64 ((n : Int) + 3))).run Try.prog w = .ok (.slice (some ⟨w.heap.size, 0, none⟩) (n + 3) (n + 3)) (w.alloc (.cells (blankI (n + 3)) 3)) := run_blankI w (n + 3) hn
  go_enter Try.func67, Try.ntmps67
  go_wp2_with fail
  clear hcp hmk
  go_loopw [4] (fun i w' => ∃ k : Nat, n ≤ k ∧ k ≤ n + 3 ∧ i = .int .i64 k ∧ NRow w.heap.size (fun i => if i < n then f i else if i < k then 7777777 else 0) (n + 3) w' ∧ Below w.heap.size w w') (fun i _ => n + 3 - (intOf i).toNat)
  case atStart => exact ⟨n, by omega, by omega, rfl, hR.congr (fun k _ => by by_cases h : k < n <;> simp [h]), hW2⟩
  case round =>
    obtain ⟨k, hk0, hk1, rfl, hR2, hW3⟩ := hrel
    by_cases hlt : k < n + 3
    · obtain ⟨hcc, hff⟩ := hR2 k hlt
      have hR3 := hR2.set k hlt 7777777
      have hlt' : (k : Int) < (n : Int) + 3 := by omega
      go_wp2_with fail
      go_roundw
      case rel =>
        refine ⟨k + 1, by omega, by omega, by go_num, hR3.congr (fun j _ => ?_), hW3.trans (bel_set _ _ _ _)⟩
        by_cases e : j = k
        · subst e; simp [show ¬ j < n by omega]
        · by_cases e1 : j < n
          · simp [e, e1]
          · by_cases e2 : j < k
            · simp [e, e1, e2, show j < k + 1 by omega]
            · simp [e, e1, e2, show ¬ j < k + 1 by omega]
      case measure => simp [intOf]; omega
    · have hge : ¬ (k : Int) < (n : Int) + 3 := by omega
      go_wp2_with fail
      go_ret
      exact ⟨rfl, hR2.congr (fun j hj => by by_cases e1 : j < n <;> simp [handedI, e1, show j < k by omega]), hW3⟩

theorem info_int1 : (Try.prog.info? 3).map (·.size) = some 1 := by kernel_rfl

/-- copy into a list of noughts at least as long. -/
theorem run_copyI (ad : Option Addr) (n cap m : Nat) (f : Nat → Int) (w : World) (hm : n ≤ m) (hr : IL ad f n w) :
    ∃ w2, (Builtin.copy_ #[24, 24] 3 #[.slice (some ⟨w.heap.size, 0, none⟩) m m, .slice ad n cap]).run Try.prog (w.alloc (.cells (blankI m) 3)) = .ok (goInt n) w2 ∧
      Below w.heap.size w w2 ∧ NRow w.heap.size (fun i => if i < n then f i else 0) m w2 := by
  rcases Nat.eq_zero_or_pos n with rfl | hpos
  · refine ⟨w.alloc (.cells (blankI m) 3), ?_, (Below.refl _ _).alloc (Nat.le_refl _) _, NRow.congr (NRow.blank w m _) (fun k _ => by simp)⟩
    exact run_copy_none (P := Try.prog) (w.alloc (.cells (blankI m) 3)) 24 24 3 3 (some ⟨w.heap.size, 0, none⟩) ad m m 0 cap Try.underlying24 info_int1 (by simp)
  · obtain ⟨b, off, rfl, hc0⟩ := hr 0 hpos
    have hb := World.block_lt_of_cell? w _ hc0
    let cs : List Value := (List.range n).map (fun j => Value.int .i64 (f j))
    have hlen : cs.length = n := by simp [cs]
    have hget : ∀ j v, cs[j]? = some v → j < n ∧ v = .int .i64 (f j) := by
      intro j v h
      obtain ⟨hj, h2⟩ := List.getElem?_eq_some_iff.1 h
      refine ⟨by omega, ?_⟩
      rw [← h2]; simp [cs]
    have hbl := NRow.blank w m 3
    have hadd : ∀ j : Nat, (⟨b, off, none⟩ : Addr).add j = ⟨b, off + j, none⟩ := fun j => by unfold Addr.add; split <;> simp_all
    refine ⟨(w.alloc (.cells (blankI m) 3)).setCells w.heap.size 0 cs, ?_, ?_, ?_⟩
    · have := run_copy_cells (P := Try.prog) (w.alloc (.cells (blankI m) 3)) 24 24 3 3 w.heap.size 0 m m ⟨b, off, none⟩ n cap cs Try.underlying24 info_int1
        (by rw [hlen]; exact (Nat.min_eq_left (by omega)).symm)
        (fun j v h => by
          obtain ⟨hj, rfl⟩ := hget j v h
          obtain ⟨b', off', he, hc⟩ := hr j hj
          cases he
          rw [hadd, World.cell?_alloc_lt _ _ _ (by exact hb)]; exact hc)
        (fun j hj => by have := (hbl j (by omega)).1; rw [Nat.zero_add, this]; rfl)
        (fun j hj => by have := (hbl j (by omega)).2; rw [Nat.zero_add]; exact this)
        (fun v hv => by simp only [cs, List.mem_map] at hv; obtain ⟨j, _, rfl⟩ := hv; rfl)
      rw [hlen] at this
      exact this
    · exact ((Below.refl _ _).alloc (Nat.le_refl _) _).trans (bel_setCells _ _ (Nat.le_refl _) cs _ 0)
    · intro k hk
      refine ⟨?_, by rw [World.frozen?_setCells]; exact (hbl k hk).2⟩
      by_cases hkn : k < n
      · have := World.cell?_setCells_in w.heap.size cs 0 (w.alloc (.cells (blankI m) 3)) (fun j hj => by have := (hbl j (by omega)).1; rw [Nat.zero_add, this]; rfl) k (by omega)
        rw [Nat.zero_add] at this
        rw [this]; simp [cs, hkn]
      · rw [World.cell?_setCells_out w.heap.size cs 0 _ _ (fun _ _ => Or.inr (by simp [hlen]; omega))]
        rw [(hbl k hk).1]; simp [hkn]
theorem handedI_any (ad : Option Addr) (n cap : Nat) (f : Nat → Int) (w : World) (hn : n + 3 ≤ 17592186044416) (hr : IL ad f n w) :
    Calls Try.prog 67 #[.slice ad n cap] w fun e w' => e = .returned (.slice (some ⟨w.heap.size, 0, none⟩) n (n + 3)) ∧ NRow w.heap.size (handedI f n) (n + 3) w' ∧ Below w.heap.size w w' := by
  obtain ⟨w2, h1, h2, h3⟩ := run_copyI ad n cap (n + 3) f w (by omega) hr
  exact handedI_in ad n cap f w w2 hn h1 h2 h3

set_option maxHeartbeats 1000000 in
theorem sameInts_any (ad ad' : Option Addr) (n cap cap' : Nat) (f : Nat → Int) (w : World) (hn : n ≤ 17592186044416) (h1 : IL ad f n w) (h2 : IL ad' f n w) :
    Calls Try.prog 45 #[.slice ad n cap, .slice ad' n cap'] w fun e w' => e = .returned (.bool true) ∧ Below w.heap.size w w' := by
  have H1 : Hid (IL ad f n w) := h1
  have H2 : Hid (IL ad' f n w) := h2
  clear h1 h2
  go_enter Try.func45, Try.ntmps45
  go_wp2_with fail
  go_loopw [5] (fun i w' => ∃ k : Nat, k ≤ n ∧ i = .int .i64 k ∧ Below w.heap.size w w') (fun i _ => n - (intOf i).toNat)
  case atStart => exact ⟨0, by omega, rfl, Below.refl _ _⟩
  case round =>
    obtain ⟨k, hk, rfl, hW⟩ := hrel
    by_cases hlt : k < n
    · have hlt' : (k : Int) < (n : Int) := by omega
      obtain ⟨b, off, rfl, c1⟩ := H1.out.below hW k hlt
      obtain ⟨b', off', rfl, c2⟩ := H2.out.below hW k hlt
      have i0 : (0 : Int) ≤ (k : Int) := by omega
      go_wp2_with fail
      go_quiet (fail)
      go_wp2_with fail
      go_roundw
      case rel => exact ⟨k + 1, by omega, by go_num, hW.trans (bel_drewN _ _ _)⟩
      case measure => simp [intOf]; omega
    · have hge : ¬ (k : Int) < (n : Int) := by omega
      go_wp2_with fail
      go_ret
      exact ⟨rfl, hW⟩

set_option maxHeartbeats 1000000 in
theorem stillI_any (g n cap : Nat) (ad : Option Addr) (f : Nat → Int) (w : World) (hn : n + 3 ≤ 17592186044416) (hR : NRow g (handedI f n) (n + 3) w) (hl : IL ad f n w) :
    Calls Try.prog 71 #[.slice (some ⟨g, 0, none⟩) n (n + 3), .slice ad n cap] w fun e w' => e = .returned (.bool true) ∧ Below w.heap.size w w' := by
  have h1 : IL (some ⟨g, 0, none⟩) f n w := fun i hi => ⟨g, 0, rfl, by have := (hR i (by omega)).1; simpa [handedI, hi] using this⟩
  have HR : Hid (NRow g (handedI f n) (n + 3) w) := hR
  have HS : Hid (Calls Try.prog 45 #[.slice (some ⟨g, 0, none⟩) n (n + 3), .slice ad n cap] w fun e w' => e = .returned (.bool true) ∧ Below w.heap.size w w') := sameInts_any (some ⟨g, 0, none⟩) ad n (n + 3) cap f w (by omega) h1 hl
  have i1 : (n : Int) + 3 ≤ ((n + 3 : Nat) : Int) := by omega
  clear hl hR h1
  go_enter Try.func71, Try.ntmps71
  go_wp2_with fail
  refine HS.out.mono ?_
  rintro e w1 ⟨rfl, hW1⟩
  go_wp2_with fail
  go_loop [7] (fun i => ∃ k : Nat, n ≤ k ∧ k ≤ n + 3 ∧ i = .int .i64 k) (fun i => n + 3 - (intOf i).toNat)
  case atStart => exact ⟨n, by omega, by omega, rfl⟩
  case round =>
    obtain ⟨k, hk0, hk, rfl⟩ := hrel
    by_cases hlt : k < n + 3
    · have hlt' : (k : Int) < (n : Int) + 3 := by omega
      obtain ⟨hcc, hff⟩ := HR.out.below hW1 k hlt
      have hh : handedI f n k = 7777777 := by simp [handedI, show ¬ k < n by omega]
      rw [hh] at hcc
      clear hh
      go_wp2_with fail
      go_round
      case rel => exact ⟨k + 1, by omega, by omega, by go_num⟩
      case measure => simp [intOf]; omega
    · have hge : ¬ (k : Int) < (n : Int) + 3 := by omega
      go_wp2_with fail
      go_ret
      exact ⟨rfl, hW1⟩
end Go.Proofs.Ytoaaklhpmhjhkaa
