/-
  Contract of the reference's Sum.
-/
import Derived.Test.YtoaaklhpmhjhkaaEncI
namespace Go.Proofs.Ytoaaklhpmhjhkaa
open Go.RowKit

/-- Four bytes that may be written over. -/
def B4 (g : Nat) (f : Nat → Nat) (w : World) : Prop := ∀ k, k < 4 → w.cell? ⟨g, k, none⟩ = some (.int .u8 (f k : Int)) ∧ w.frozen? ⟨g, k, none⟩ = false
theorem B4.set {g : Nat} {f : Nat → Nat} {w : World} (h : B4 g f w) (j : Nat) (hj : j < 4) (b : Nat) : B4 g (fun k => if k = j then b else f k) (w.setCell ⟨g, j, none⟩ (.int .u8 b)) := fun k hk => by
  obtain ⟨hc, hf⟩ := h k hk
  obtain ⟨hc', hf'⟩ := h j hj
  refine ⟨?_, ?_⟩
  · by_cases e : k = j
    · subst e; simp; go_simp
    · simp only [if_neg e]
      rw [World.cell?_setCell_other _ _ _ _ (by intro he; cases he; exact e rfl)]; exact hc
  · go_simp
theorem B4.congr {g : Nat} {f f' : Nat → Nat} {w : World} (h : B4 g f w) (e : ∀ k, k < 4 → f k = f' k) : B4 g f' w := fun k hk => by
  rw [← e k hk]; exact h k hk
theorem BLs.block {g : Nat} {f : Nat → Bool} {n : Nat} {w w' : World} (h : BLs g f n w) (hb : w'.heap[g]? = w.heap[g]?) : BLs g f n w' := fun k hk => by
  rw [World.cell?_of_block (w := w) (a := ⟨g, k, none⟩) hb, World.frozen?_of_block (w := w) (a := ⟨g, k, none⟩) hb]; exact h k hk
/-- Four bytes of which the first k bits of c are laid. -/
def Laid (c k : Nat) (f : Nat → Nat) : Prop := ∀ q, q < 4 → ∀ b, (f q).testBit b = (decide (b < 8) && decide (8 * q + 7 < k + b) && c.testBit (24 - 8 * q + b))
theorem Laid.lt {c k : Nat} {f : Nat → Nat} (h : Laid c k f) (q : Nat) (hq : q < 4) : f q < 256 := by
  have : f q < 2 ^ 8 := Nat.lt_pow_two_of_testBit _ (fun i hi => by rw [h q hq i]; simp; omega)
  simpa using this
theorem Laid.step0 {c k : Nat} {f : Nat → Nat} (h : Laid c k f) (hk : k < 32) (hc : c.testBit (31 - k) = false) : Laid c (k + 1) f := fun q hq b => by
  rw [h q hq b]
  by_cases h1 : b < 8
  · by_cases h2 : 8 * q + 7 = k + b
    · have e1 : 24 - 8 * q + b = 31 - k := by omega
      rw [e1, hc]; simp
    · by_cases h3 : 8 * q + 7 < k + b
      · have : 8 * q + 7 < k + 1 + b := by omega
        simp [h3, this]
      · have : ¬ 8 * q + 7 < k + 1 + b := by omega
        simp [h3, this]
  · simp [h1]
theorem Laid.step1 {c k : Nat} {f : Nat → Nat} (h : Laid c k f) (hk : k < 32) (hc : c.testBit (31 - k) = true) : Laid c (k + 1) (fun q => if q = k / 8 then f (k / 8) ||| 2 ^ (7 - k % 8) else f q) := fun q hq b => by
  by_cases hqk : q = k / 8
  · simp only [if_pos hqk]
    rw [← hqk, Nat.testBit_or, h q hq b, Nat.testBit_two_pow]
    by_cases h1 : b < 8
    · by_cases h2 : 8 * q + 7 = k + b
      · have e1 : 24 - 8 * q + b = 31 - k := by omega
        have e2 : 7 - k % 8 = b := by omega
        have e3 : 8 * q + 7 < k + 1 + b := by omega
        rw [e1, hc]; simp [h1, e2, e3]
      · have e2 : ¬ 7 - k % 8 = b := by omega
        by_cases h3 : 8 * q + 7 < k + b
        · have : 8 * q + 7 < k + 1 + b := by omega
          simp [h3, this, e2]
        · have : ¬ 8 * q + 7 < k + 1 + b := by omega
          simp [h3, this, e2]
    · have e2 : ¬ 7 - k % 8 = b := by omega
      simp [h1, e2]
  · simp only [if_neg hqk]
    rw [h q hq b]
    by_cases h1 : b < 8
    · by_cases h3 : 8 * q + 7 < k + b
      · have : 8 * q + 7 < k + 1 + b := by omega
        simp [h3, this]
      · have : ¬ 8 * q + 7 < k + 1 + b := by omega
        simp [h3, this]
    · simp [h1]
theorem Laid.all {c : Nat} {f : Nat → Nat} (h : Laid c 32 f) (q : Nat) (hq : q < 4) : f q = c / 2 ^ (24 - 8 * q) % 256 := by
  apply Nat.eq_of_testBit_eq
  intro b
  rw [h q hq b, show (256 : Nat) = 2 ^ 8 from rfl, Nat.testBit_mod_two_pow, Nat.testBit_div_two_pow, Nat.add_comm b]
  by_cases h1 : b < 8
  · have : 8 * q + 7 < 32 + b := by omega
    simp [h1, this]
  · simp [h1]
theorem run_blank4 (w : World) : (Instr.makeSlice 106 (.int .i64 4) (.int .i64 4)).run Try.prog w = .ok (.slice (some ⟨w.heap.size, 0, none⟩) 4 4) (w.alloc (.cells (madeCells #[.int .u8 0] 4) 5)) := by
  obtain ⟨i, hi, hz, hs, hb⟩ := eInfoU8
  have h := run_make (P := Try.prog) w 106 5 i (.int .u8 0) Try.underlying106 hi hz .i64 .i64 4 4 (by omega) (by omega) (by rw [hb]; omega) (by omega)
  rw [hs] at h
  exact h
theorem B4.blank (w : World) (t : TypeId) : B4 w.heap.size (fun _ => 0) (w.alloc (.cells (madeCells #[.int .u8 0] 4) t)) := fun k hk => by
  refine ⟨?_, ?_⟩
  · rw [World.cell?_alloc_new]; simp [madeCells, hk, Nat.mod_one]
  · go_simp

set_option maxRecDepth 100000 in
set_option maxHeartbeats 2000000 in
theorem refSum_any (s : ByteArray) (w : World) (hs : s.size ≤ 1000000) :
    Calls Try.prog 70 #[.string s] w fun e w' => e = .returned (.string ⟨(sumL s.data.toList).toArray⟩) ∧ Below w.heap.size w w' := by
  have hl : s.data.toList.length = s.size := by simp
  obtain ⟨i, hi, hz0, hz1, hz2⟩ := eInfoBool
  have HB : Hid (Calls Try.prog 98 #[.string s] w fun e w' => ∃ v, e = .returned v ∧ Grows w.heap.size v (bo (msg s.data.toList) (8 * s.size)) w' ∧ Below w.heap.size w w') := bits_any s w hs
  have HM : Hid (∀ t, msg s.data.toList (8 * s.size + t) = false) := fun t => by
    have h : decide (8 * s.size + t < 8 * s.data.toList.length) = false := decide_eq_false (by omega)
    unfold msg; rw [h]; rfl
  have HL : Hid (s.data.toList.length = s.size) := hl
  clear hl
  generalize s.data.toList = L at *
  go_enter Try.func70, Try.ntmps70
  go_wp2_with fail
  refine HB.out.mono ?_
  rintro e w1 ⟨v, rfl, hG, hW⟩
  clear HB
  go_wp2_with fail
  go_loopw [3, 4] (fun v i w' => ∃ k : Nat, k ≤ 32 ∧ i = .int .i64 k ∧ Grows w.heap.size v (bo (msg L) (8 * s.size + k)) w' ∧ Below w.heap.size w w') (fun _ i _ => 32 - (intOf i).toNat)
  case atStart => exact ⟨0, by omega, rfl, hG, hW⟩
  case round =>
    clear hG hW
    obtain ⟨k, hk, rfl, hG1, hW1⟩ := hrel
    by_cases hlt : k < 32
    · have hlt' : (k : Int) < 32 := by omega
      have HMk : Hid (msg L (8 * s.size + k) = false) := HM.out k
      have hG2 := hG1.alloc (.cells #[.bool false] 4)
      have hW2 := hW1.alloc hW1.size (.cells #[.bool false] 4)
      have hnew : ∀ j u, [Value.bool false][j]? = some u → (wr.alloc (.cells #[.bool false] 4)).cell? ⟨wr.heap.size, j, none⟩ = some u := fun j u hu => by
        rw [World.cell?_alloc_new]; simpa using hu
      have hlen : (bo (msg L) (8 * s.size + k)).length = 8 * s.size + k := bo_len _ _
      go_wp2_with (first | (at_builtin; refine wpList_grow (by rfl) _ _ 124 4 (by rfl) i (.bool false) 1 Try.underlying124 hi hz0 hz1 hz2 rfl (by omega) w.heap.size u3 (bo (msg L) (8 * s.size + k)) (by rfl) hG2 wr.heap.size 1 [.bool false] (by rfl) rfl hnew (by simp [Value.oneCell']) (by rw [bo_len]; omega) (by simp; have := hW1.size; omega) (by omega) ?_; intro g cap w2 hG3 hgrow))
      rw [← HMk.out, ← bo_succ, bo_len] at hG3
      go_roundw
      case rel => exact ⟨k + 1, by omega, by go_num, by rw [← Nat.add_assoc]; exact hG3, hW2.grown hgrow (Nat.le_trans hW1.size (by simp)) hG1.ge⟩
      case measure => simp [intOf]; omega
    · have hge : ¬ (k : Int) < 32 := by omega
      have hk32 : k = 32 := by omega
      subst hk32
      obtain ⟨g, cap, rfl, hgb, hB⟩ := hG1.bls (by omega)
      have hgl : g < wr.heap.size := World.block_lt_of_cell? wr ⟨g, 0, none⟩ (hB 0 (by omega)).1
      clear hG1
      go_wp2_with fail
      go_loopw [5] (fun i w' => ∃ k : Nat, k ≤ 32 ∧ i = .int .i64 k ∧ BLs g (fun j => msg L j ^^ decide (j < k)) (8 * s.size + 32) w' ∧ Below w.heap.size w w' ∧ g < w'.heap.size) (fun i _ => 32 - (intOf i).toNat)
      case atStart => exact ⟨0, by omega, rfl, hB.congr (fun j _ => by simp), hW1, hgl⟩
      case round =>
        clear hB hgl hW1
        obtain ⟨k, hk, rfl, hB, hW1, hgl⟩ := hrel
        by_cases hlt : k < 32
        · have hlt' : (k : Int) < 32 := by omega
          have i1 : (k : Int) < ((8 * s.size + 32 : Nat) : Int) := by omega
          have d1 : wr.cell? ⟨g, k, none⟩ = some (.bool (msg L k)) := by simpa using (hB k (by omega)).1
          have d2 := (hB k (by omega)).2
          have hB2 := hB.set k (by omega) (!(msg L k))
          go_wp2_with fail
          go_roundw
          case rel =>
            refine ⟨k + 1, by omega, by go_num, hB2.congr (fun j hj => ?_), hW1.trans ((bel_set _ g k _).mono hgb), by simpa [World.setCell] using hgl⟩
            by_cases e : j = k
            · subst e
              rw [if_pos rfl]; simp
            · rw [if_neg e]
              by_cases e2 : j < k
              · simp [e2, show j < k + 1 by omega]
              · simp [e2, show ¬ j < k + 1 by omega]
          case measure => simp [intOf]; omega
        · have hge : ¬ (k : Int) < 32 := by omega
          have hk32 : k = 32 := by omega
          subst hk32
          have hD : BLs g (divL L 0) (8 * s.size + 32) wr := hB.congr (fun j _ => (divL_zero L j).symm)
          have i0 : ((8 * s.size + 32 : Nat) : Int) - 32 = ((8 * s.size : Nat) : Int) := by omega
          clear hB
          obtain ⟨N, hN⟩ : ∃ N, N = 8 * s.size := ⟨_, rfl⟩
          rw [← hN] at hD i0
          rw [← hN]
          have HN : Hid (N = 8 * s.size) := hN
          have hNb : N ≤ 8000000 := by omega
          clear hN
          go_wp2_with fail
          go_loopw [7] (fun i w' => ∃ k : Nat, k ≤ N ∧ i = .int .i64 k ∧ BLs g (divL L k) (N + 32) w' ∧ Below w.heap.size w w' ∧ g < w'.heap.size) (fun i _ => N - (intOf i).toNat)
          case atStart => exact ⟨0, by omega, rfl, hD, hW1, hgl⟩
          case round =>
            clear hD hgl hW1
            obtain ⟨k, hk, rfl, hB, hW1, hgl⟩ := hrel
            by_cases hlt : k < N
            · have hlt' : (k : Int) < (N : Int) := by omega
              have i1 : (k : Int) < ((N + 32 : Nat) : Int) := by omega
              obtain ⟨d1, d2⟩ := hB k (by omega)
              cases hbk : divL L k k
              · rw [hbk] at d1
                have hB2 : BLs g (divL L (k + 1)) (N + 32) wr := hB.congr (fun j _ => (divL_noflip L k j hbk).symm)
                clear hbk hB
                go_wp2_with fail
                go_roundw
                case rel => exact ⟨k + 1, by omega, by go_num, hB2, hW1, hgl⟩
                case measure => simp [intOf]; omega
              · rw [hbk] at d1
                have Hbk : Hid (divL L k k = true) := hbk
                have hB2 : BLs g (divK L k 0) (N + 32) (wr.setCell ⟨g, k, none⟩ (.bool false)) := (hB.set k (by omega) false).congr (fun j _ => by
                  by_cases e : j = k
                  · subst e; rw [if_pos rfl, divK_self]
                  · rw [if_neg e, divK_zero L k j e])
                have hW2 : Below w.heap.size w (wr.setCell ⟨g, k, none⟩ (.bool false)) := hW1.trans ((bel_set _ g k _).mono hgb)
                have hgl2 : g < (wr.setCell ⟨g, k, none⟩ (.bool false)).heap.size := by simpa [World.setCell] using hgl
                clear hbk hB hgl hW1
                go_wp2_with fail
                go_loopw [8] (fun i w' => ∃ t : Nat, t ≤ 32 ∧ i = .int .i64 t ∧ BLs g (divK L k t) (N + 32) w' ∧ Below w.heap.size w w' ∧ g < w'.heap.size) (fun i _ => 32 - (intOf i).toNat)
                case atStart => exact ⟨0, by omega, rfl, hB2, hW2, hgl2⟩
                case round =>
                  clear hB2 hW2 hgl2 d1 d2
                  obtain ⟨t, ht, rfl, hB, hW1, hgl⟩ := hrel
                  by_cases htl : t < 32
                  · have htl' : (t : Int) < 32 := by omega
                    have qb0 : (bits .and .i64 (79764919 / 2 ^ t) 1 == 1) = divr.testBit t := bit_of 79764919 t
                    cases hdv : divr.testBit t
                    · have qb : (bits .and .i64 (79764919 / 2 ^ t) 1 == 1) = false := by rw [qb0, hdv]
                      have hB2 : BLs g (divK L k (t + 1)) (N + 32) wr := hB.congr (fun j _ => by rw [divK_succ L k t j htl Hbk.out, hdv]; simp)
                      clear qb0 hdv hB
                      go_wp2_with fail
                      go_roundw
                      case rel => exact ⟨t + 1, by omega, by go_num, hB2, hW1, hgl⟩
                      case measure => simp [intOf]; omega
                    · have qb : (bits .and .i64 (79764919 / 2 ^ t) 1 == 1) = true := by rw [qb0, hdv]
                      obtain ⟨m, hm⟩ : ∃ m, m = k + 32 - t := ⟨_, rfl⟩
                      have im : (k : Int) + 32 - (t : Int) = (m : Int) := by omega
                      have im2 : (m : Int) < ((N + 32 : Nat) : Int) := by omega
                      obtain ⟨d1, d2⟩ := hB m (by omega)
                      have hB2 : BLs g (divK L k (t + 1)) (N + 32) (wr.setCell ⟨g, m, none⟩ (.bool (!divK L k t m))) := (hB.set m (by omega) (!divK L k t m)).congr (fun j _ => by
                        rw [divK_succ L k t j htl Hbk.out]
                        by_cases e : j = m
                        · subst e; rw [if_pos rfl, if_pos ⟨hm, hdv⟩]
                        · rw [if_neg e, if_neg (fun h => e (by rw [h.1, hm]))])
                      clear qb0 hdv hB hm
                      generalize divK L k t m = bb at *
                      go_wp2_with fail
                      go_roundw
                      case rel => exact ⟨t + 1, by omega, by go_num, hB2, hW1.trans ((bel_set _ g m _).mono hgb), by simpa [World.setCell] using hgl⟩
                      case measure => simp [intOf]; omega
                  · have hge : ¬ (t : Int) < 32 := by omega
                    have ht32 : t = 32 := by omega
                    subst ht32
                    have hB2 : BLs g (divL L (k + 1)) (N + 32) wr := hB.congr (fun j _ => divK_all L k j Hbk.out)
                    clear hB
                    go_wp2_with fail
                    go_roundw
                    case rel => exact ⟨k + 1, by omega, by go_num, hB2, hW1, hgl⟩
                    case measure => simp [intOf]; omega
            · have hge : ¬ (k : Int) < (N : Int) := by omega
              have hkN : k = N := by omega
              subst hkN
              have HC : Hid (∀ t, t < 32 → divL L k (k + t) = !(crc L).testBit (31 - t)) := fun t ht => by
                have := divL_end L t ht
                rw [HL.out, ← HN.out] at this; exact this
              have hmk := run_blank4 wr
              have h4 := B4.blank wr 5
              have hB2 := hB.below (bel_box' wr (.cells (madeCells #[.int .u8 0] 4) 5))
              have hW2 := hW1.alloc hW1.size (.cells (madeCells #[.int .u8 0] 4) 5)
              have hG0 : w.heap.size ≤ wr.heap.size := hW1.size
              clear hB hW1
              obtain ⟨G, hG⟩ : ∃ G, G = wr.heap.size := ⟨_, rfl⟩
              rw [← hG] at hmk h4 hG0 hgl
              generalize hW4 : wr.alloc (.cells (madeCells #[.int .u8 0] 4) 5) = w4 at *
              clear hW4 hG
              go_wp2_with fail
              go_loopw [10] (fun i w' => ∃ (k' : Nat) (f : Nat → Nat), k' ≤ 32 ∧ i = .int .i64 k' ∧ Laid (crc L) k' f ∧ B4 G f w' ∧ BLs g (divL L k) (k + 32) w' ∧ Below w.heap.size w w') (fun i _ => 32 - (intOf i).toNat)
              case atStart => exact ⟨0, fun _ => 0, by omega, rfl, fun q hq b => by simp; omega, h4, hB2, hW2⟩
              case round =>
                clear h4 hB2 hW2
                obtain ⟨k', f, hk', rfl, hLd, hB4, hB, hW1⟩ := hrel
                have HLd : Hid (Laid (crc L) k' f) := hLd
                clear hLd
                by_cases hlt : k' < 32
                · have hlt' : (k' : Int) < 32 := by omega
                  have i1 : (k : Int) + (k' : Int) < ((k + 32 : Nat) : Int) := by omega
                  obtain ⟨d1, d2⟩ := hB (k + k') (by omega)
                  rw [HC.out k' hlt] at d1
                  cases hbit : (crc L).testBit (31 - k')
                  · rw [hbit] at d1
                    have HL2 : Hid (Laid (crc L) (k' + 1) f) := HLd.out.step0 hlt hbit
                    clear hbit
                    go_wp2_with fail
                    go_roundw
                    case rel => exact ⟨k' + 1, f, by omega, by go_num, HL2.out, hB4, hB, hW1⟩
                    case measure => simp [intOf]; omega
                  · rw [hbit] at d1
                    have HL2 : Hid (Laid (crc L) (k' + 1) (fun q => if q = k' / 8 then f (k' / 8) ||| 2 ^ (7 - k' % 8) else f q)) := HLd.out.step1 hlt hbit
                    have hfq := HLd.out.lt (k' / 8) (by omega)
                    obtain ⟨q, hq⟩ : ∃ q, q = k' / 8 := ⟨_, rfl⟩
                    obtain ⟨r, hr⟩ : ∃ r, r = k' % 8 := ⟨_, rfl⟩
                    rw [← hq] at hfq HL2
                    rw [← hr] at HL2
                    have iq : (k' : Int) / 8 = (q : Int) := by omega
                    have ir : (k' : Int) % 8 = (r : Int) := by omega
                    have iq4 : (q : Int) < 4 := by omega
                    have ir8 : r < 8 := by omega
                    obtain ⟨d3, d4⟩ := hB4 q (by omega)
                    have hB5 := hB4.set q (by omega) (f q ||| 2 ^ (7 - r))
                    have hp : 2 ^ (7 - r) < 256 := by
                      have : 2 ^ (7 - r) ≤ 2 ^ 7 := Nat.pow_le_pow_right (by omega) (by omega)
                      omega
                    have qo : bits .or .u8 (f q : Int) (2 ^ (7 - r) % 256) = ((f q ||| 2 ^ (7 - r) : Nat) : Int) := by
                      have e : ((2 : Int) ^ (7 - r) % 256) = ((2 ^ (7 - r) : Nat) : Int) := by
                        have c : ((2 : Int) ^ (7 - r)) = ((2 ^ (7 - r) : Nat) : Int) := by simp
                        rw [c]
                        have hp2 := hp
                        generalize (2 ^ (7 - r) : Nat) = P at hp2 ⊢
                        omega
                      rw [e, u8_or_nat _ _ hfq hp]
                    clear hbit hq hr hp
                    generalize f q ||| 2 ^ (7 - r) = y at *
                    have hB6 : BLs g (divL L k) (k + 32) (wr.setCell ⟨G, q, none⟩ (.int .u8 (y : Int))) := hB.block (Below.heap_setCell wr ⟨G, q, none⟩ _ g (by simp; omega))
                    have hW6 : Below w.heap.size w (wr.setCell ⟨G, q, none⟩ (.int .u8 (y : Int))) := hW1.setCell (p := ⟨G, q, none⟩) hG0 _
                    go_wp2_with fail
                    go_region
                    go_wp2_with fail
                    go_roundw
                    case rel => exact ⟨k' + 1, _, by omega, by go_num, HL2.out, fun j hj => hB5 j hj, fun j hj => hB6 j hj, hW6.drew⟩
                    case measure => simp [intOf]; omega
                · have hge : ¬ (k' : Int) < 32 := by omega
                  have hk32 : k' = 32 := by omega
                  subst hk32
                  have hconv : (convert 106 9 (.slice (some ⟨G, 0, none⟩) 4 4)).run Try.prog wr = .ok (.string ⟨(sumL L).toArray⟩) wr := by
                    have hL4 : (sumL L).length = 4 := rfl
                    have h0 := HLd.out.all 0 (by omega)
                    have h1 := HLd.out.all 1 (by omega)
                    have h2 := HLd.out.all 2 (by omega)
                    have h3 := HLd.out.all 3 (by omega)
                    have := run_convert_bytes_back (P := Try.prog) wr 106 9 5 ⟨G, 0, none⟩ 4 (sumL L) Try.underlying106 Try.underlying5 Try.underlying9 (fun j hj => by
                      have hj' : j < 4 := hj
                      rw [Addr.add_lit, Nat.zero_add, (hB4 j hj').1]
                      rcases j with _ | _ | _ | _ | j
                      · rw [h0]; simp [sumL, byteOf_toNat]
                      · rw [h1]; simp [sumL, byteOf_toNat]
                      · rw [h2]; simp [sumL, byteOf_toNat]
                      · rw [h3]; simp [sumL, byteOf_toNat]
                      · omega)
                    rw [hL4] at this; exact this
                  go_wp2_with fail
                  go_ret
                  exact ⟨rfl, hW1⟩
end Go.Proofs.Ytoaaklhpmhjhkaa
