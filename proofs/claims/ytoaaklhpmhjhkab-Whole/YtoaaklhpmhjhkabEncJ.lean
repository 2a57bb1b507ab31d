/-
  Contract of the reference's Sum.
-/
import Derived.Test.YtoaaklhpmhjhkabEncI
namespace Go.Proofs.Ytoaaklhpmhjhkab
open Go.RowKit

/-- Four bytes that may be written over. -/
def B4 (g : Nat) (f : Nat → Nat) (w : World) : Prop := ∀ k, k < 4 → w.cell? ⟨g, k, none⟩ = some (.int .u8 (f k : Int)) ∧ w.frozen? ⟨g, k, none⟩ = false
theorem B4.set {g : Nat} {f : Nat → Nat} {w : World} (h : B4 g f w) (j : Nat) (hj : j < 4) (b : Nat) : B4 g (fun k => if k = j then b else f k) (w.setCell ⟨g, j, none⟩ (.int .u8 b)) := fun k hk => by
  obtain ⟨hc, hf⟩ := h k hk
  obtain ⟨hc', hf'⟩ := h j hj
  refine ⟨?_, ?_⟩
  · by_cases e : k = j
    · subst e; simp; go_simp
    · simp only [if_neg e]
      rw [World.cell?_setCell_other _ _ _ _ (by intro he; cases he; exact e rfl)]; exact hc
  · go_simp
theorem B4.congr {g : Nat} {f f' : Nat → Nat} {w : World} (h : B4 g f w) (e : ∀ k, k < 4 → f k = f' k) : B4 g f' w := fun k hk => by
  rw [← e k hk]; exact h k hk
theorem BLs.block {g : Nat} {f : Nat → Bool} {n : Nat} {w w' : World} (h : BLs g f n w) (hb : w'.heap[g]? = w.heap[g]?) : BLs g f n w' := fun k hk => by
  rw [World.cell?_of_block (w := w) (a := ⟨g, k, none⟩) hb, World.frozen?_of_block (w := w) (a := ⟨g, k, none⟩) hb]; exact h k hk
/-- Four bytes of which the first k bits of c are laid. -/
def Laid (c k : Nat) (f : Nat → Nat) : Prop := ∀ q, q < 4 → ∀ b, (f q).testBit b = (decide (b < 8) && decide (8 * q + 7 < k + b) && c.testBit (24 - 8 * q + b))
theorem Laid.lt {c k : Nat} {f : Nat → Nat} (h : Laid c k f) (q : Nat) (hq : q < 4) : f q < 256 := by
  have : f q < 2 ^ 8 := Nat.lt_pow_two_of_testBit _ (fun i hi => by rw [h q hq i]; simp; omega)
  simpa using this
theorem Laid.step0 {c k : Nat} {f : Nat → Nat} (h : Laid c k f) (hk : k < 32) (hc : c.testBit (31 - k) = false) : Laid c (k + 1) f := fun q hq b => by
  rw [h q hq b]
  by_cases h1 : b < 8
  · by_cases h2 : 8 * q + 7 = k + b
    · have e1 : 24 - 8 * q + b = 31 - k := by omega
      rw [e1, hc]; simp
    · by_cases h3 : 8 * q + 7 < k + b
      · have : 8 * q + 7 < k + 1 + b := by omega
        simp [h3, this]
      · have : ¬ 8 * q + 7 < k + 1 + b := by omega
        simp [h3, this]
  · simp [h1]
theorem Laid.step1 {c k : Nat} {f : Nat → Nat} (h : Laid c k f) (hk : k < 32) (hc : c.testBit (31 - k) = true) : Laid c (k + 1) (fun q => if q = k / 8 then f (k / 8) ||| 2 ^ (7 - k % 8) else f q) := fun q hq b => by
  by_cases hqk : q = k / 8
  · simp only [if_pos hqk]
    rw [← hqk, Nat.testBit_or, h q hq b, Nat.testBit_two_pow]
    by_cases h1 : b < 8
    · by_cases h2 : 8 * q + 7 = k + b
      · have e1 : 24 - 8 * q + b = 31 - k := by omega
        have e2 : 7 - k % 8 = b := by omega
        have e3 : 8 * q + 7 < k + 1 + b := by omega
        rw [e1, hc]; simp [h1, e2, e3]
      · have e2 : ¬ 7 - k % 8 = b := by omega
        by_cases h3 : 8 * q + 7 < k + b
        · have : 8 * q + 7 < k + 1 + b := by omega
          simp [h3, this, e2]
        · have : ¬ 8 * q + 7 < k + 1 + b := by omega
          simp [h3, this, e2]
    · have e2 : ¬ 7 - k % 8 = b := by omega
      simp [h1, e2]
  · simp only [if_neg hqk]
    rw [h q hq b]
    by_cases h1 : b < 8
    · by_cases h3 : 8 * q + 7 < k + b
      · have : 8 * q + 7 < k + 1 + b := by omega
        simp [h3, this]
      · have : ¬ 8 * q + 7 < k + 1 + b := by omega
        simp [h3, this]
    · simp [h1]
theorem Laid.all {c : Nat} {f : Nat → Nat} (h : Laid c 32 f) (q : Nat) (hq : q < 4) : f q = c / 2 ^ (24 - 8 * q) % 256 := by
  apply Nat.eq_of_testBit_eq
  intro b
  rw [h q hq b, show (256 : Nat) = 2 ^ 8 from rfl, Nat.testBit_mod_two_pow, Nat.testBit_div_two_pow, Nat.add_comm b]
  by_cases h1 : b < 8
  · have : 8 * q + 7 < 32 + b := by omega
    simp [h1, this]
  · simp [h1]
theorem run_blank4 (w : World) : (Instr.makeSlice 78 (.int .i64 4) (.int .i64 4)).run Try.prog w = .ok (.slice (some ⟨w.heap.size, 0, none⟩) 4 4) (w.alloc (.cells (madeCells #[.int .u8 0] 4) 5)) := by
  obtain ⟨i, hi, hz, hs, hb⟩ := eInfoU8
  have h := run_make (P := Try.prog) w 78 5 i (.int .u8 0) Try.underlying78 hi hz .i64 .i64 4 4 (by omega) (by omega) (by rw [hb]; omega) (by omega)
  rw [hs] at h
  exact h
theorem B4.blank (w : World) (t : TypeId) : B4 w.heap.size (fun _ => 0) (w.alloc (.cells (madeCells #[.int .u8 0] 4) t)) := fun k hk => by
  refine ⟨?_, ?_⟩
  · rw [World.cell?_alloc_new]; simp [madeCells, hk, Nat.mod_one]
  · go_simp

end Go.Proofs.Ytoaaklhpmhjhkab
