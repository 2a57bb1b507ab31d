/-
  Contracts of the reference's bits and Sum.
-/
import Derived.Test.YtoaaklhpmhjhkabEncG
import Derived.Deep.AppendLies
namespace Go.Proofs.Ytoaaklhpmhjhkab
open Go.RowKit

/-- Bools as cells. -/
def bo (f : Nat → Bool) (n : Nat) : List Value := (List.range n).map fun j => .bool (f j)
theorem bo_succ (f : Nat → Bool) (n : Nat) : bo f (n + 1) = bo f n ++ [.bool (f n)] := by simp [bo, List.range_succ]
theorem bo_len (f : Nat → Bool) (n : Nat) : (bo f n).length = n := by simp [bo]

theorem i64_and1 (n : Int) : bits .and .i64 n 1 = n % 2 := by
  have h1 : (BitVec.ofInt 64 1).toNat = 2 ^ 1 - 1 := by decide
  have key : (BitVec.ofInt 64 n &&& BitVec.ofInt 64 1).toNat = (n % ((2 ^ 64 : Nat) : Int)).toNat % 2 ^ 1 := by
    rw [BitVec.toNat_and, BitVec.toNat_ofInt, h1, Nat.and_two_pow_sub_one_eq_mod]
  show IntKind.i64.wrap ((BitVec.ofInt 64 n &&& BitVec.ofInt 64 1).toNat : Nat) = n % 2
  rw [key, IntKind.wrap_i64]
  omega
theorem bit_of (x t : Nat) : (bits .and .i64 ((x : Int) / 2 ^ t) 1 == 1) = x.testBit t := by
  have e : ((x : Int) / 2 ^ t) = ((x / 2 ^ t : Nat) : Int) := by simp
  rw [e, i64_and1, Nat.testBit_eq_decide_div_mod_eq]
  by_cases hh : x / 2 ^ t % 2 = 1
  · rw [decide_eq_true hh]; simp only [beq_iff_eq]; omega
  · rw [decide_eq_false hh]; simp only [beq_eq_false_iff_ne]; omega

/-- Bools that may be written over. -/
def BLs (g : Nat) (f : Nat → Bool) (n : Nat) (w : World) : Prop := ∀ k, k < n → w.cell? ⟨g, k, none⟩ = some (.bool (f k)) ∧ w.frozen? ⟨g, k, none⟩ = false
theorem BLs.set {g : Nat} {f : Nat → Bool} {n : Nat} {w : World} (h : BLs g f n w) (j : Nat) (hj : j < n) (b : Bool) : BLs g (fun k => if k = j then b else f k) n (w.setCell ⟨g, j, none⟩ (.bool b)) := fun k hk => by
  obtain ⟨hc, hf⟩ := h k hk
  obtain ⟨hc', hf'⟩ := h j hj
  refine ⟨?_, ?_⟩
  · by_cases e : k = j
    · subst e; simp; go_simp
    · simp only [if_neg e]
      rw [World.cell?_setCell_other _ _ _ _ (by intro he; cases he; exact e rfl)]; exact hc
  · go_simp
theorem BLs.congr {g : Nat} {f f' : Nat → Bool} {n : Nat} {w : World} (h : BLs g f n w) (e : ∀ k, k < n → f k = f' k) : BLs g f' n w := fun k hk => by
  rw [← e k hk]; exact h k hk
theorem BLs.below {g : Nat} {f : Nat → Bool} {n : Nat} {w w' : World} (h : BLs g f n w) (hW : Below w.heap.size w w') : BLs g f n w' := fun k hk => by
  have hg := World.block_lt_of_cell? w ⟨g, k, none⟩ (h k hk).1
  rw [hW.cell (p := ⟨g, k, none⟩) hg, hW.frozen (p := ⟨g, k, none⟩) hg]; exact h k hk
theorem Grows.bls {base : Nat} {v : Value} {f : Nat → Bool} {n : Nat} {w : World} (h : Grows base v (bo f n) w) (hn : 0 < n) : ∃ g cap, v = .slice (some ⟨g, 0, none⟩) n cap ∧ base ≤ g ∧ BLs g f n w := by
  rcases h with ⟨_, h⟩ | ⟨g, cap, rfl, h1, h2, h3, h4, h5⟩
  · have : (bo f n).length = 0 := by rw [h]; rfl
    rw [bo_len] at this; omega
  · refine ⟨g, cap, by rw [bo_len], h1, fun k hk => ⟨h4 k _ ?_, (h5 k (by rw [bo_len] at h3; omega)).2⟩⟩
    simp [bo, hk]

end Go.Proofs.Ytoaaklhpmhjhkab
