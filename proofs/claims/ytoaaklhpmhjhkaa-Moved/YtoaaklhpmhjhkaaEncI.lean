/-
  Contracts of the reference's bits and Sum.
-/
import Derived.Test.YtoaaklhpmhjhkaaEncG
import Derived.Deep.AppendLies
namespace Go.Proofs.Ytoaaklhpmhjhkaa
open Go.RowKit

/-- Bools as cells. -/
def bo (f : Nat → Bool) (n : Nat) : List Value := (List.range n).map fun j => .bool (f j)
theorem bo_succ (f : Nat → Bool) (n : Nat) : bo f (n + 1) = bo f n ++ [.bool (f n)] := by simp [bo, List.range_succ]
theorem bo_len (f : Nat → Bool) (n : Nat) : (bo f n).length = n := by simp [bo]

theorem i64_and1 (n : Int) : bits .and .i64 n 1 = n % 2 := by
  have h1 : (BitVec.ofInt 64 1).toNat = 2 ^ 1 - 1 := by decide
  have key : (BitVec.ofInt 64 n &&& BitVec.ofInt 64 1).toNat = (n % ((2 ^ 64 : Nat) : Int)).toNat % 2 ^ 1 := by
    rw [BitVec.toNat_and, BitVec.toNat_ofInt, h1, Nat.and_two_pow_sub_one_eq_mod]
  show IntKind.i64.wrap ((BitVec.ofInt 64 n &&& BitVec.ofInt 64 1).toNat : Nat) = n % 2
  rw [key, IntKind.wrap_i64]
  omega
theorem bit_of (x t : Nat) : (bits .and .i64 ((x : Int) / 2 ^ t) 1 == 1) = x.testBit t := by
  have e : ((x : Int) / 2 ^ t) = ((x / 2 ^ t : Nat) : Int) := by simp
  rw [e, i64_and1, Nat.testBit_eq_decide_div_mod_eq]
  by_cases hh : x / 2 ^ t % 2 = 1
  · rw [decide_eq_true hh]; simp only [beq_iff_eq]; omega
  · rw [decide_eq_false hh]; simp only [beq_eq_false_iff_ne]; omega

set_option maxRecDepth 100000 in
set_option maxHeartbeats 1000000 in
theorem bits_any (s : ByteArray) (w : World) (hs : s.size ≤ 1000000) :
    Calls Try.prog 98 #[.string s] w fun e w' => ∃ v, e = .returned v ∧ Grows w.heap.size v (bo (msg s.data.toList) (8 * s.size)) w' ∧ Below w.heap.size w w' := by
  have hl : s.data.toList.length = s.size := by simp
  obtain ⟨i, hi, hz0, hz1, hz2⟩ := eInfoBool
  go_enter Try.func98, Try.ntmps98
  go_wp2_with fail
  go_loopw [3, 4] (fun v i w' => ∃ k : Nat, k ≤ s.size ∧ i = .int .i64 k ∧ Grows w.heap.size v (bo (msg s.data.toList) (8 * k)) w' ∧ Below w.heap.size w w') (fun _ i _ => s.size - (intOf i).toNat)
  case atStart => exact ⟨0, by omega, rfl, Grows.nil _ _, Below.refl _ _⟩
  case round =>
    obtain ⟨k, hk, rfl, hG, hW⟩ := hrel
    by_cases hlt : k < s.size
    · have hlt' : (k : Int) < (s.size : Int) := by omega
      have hb := s[k].toNat_lt
      have HM : Hid (∀ t, t < 8 → msg s.data.toList (8 * k + t) = s[k].toNat.testBit (7 - t)) := fun t ht => msg_at s.data.toList k t (by omega) ht
      go_wp2_with fail
      go_loopw [3, 5] (fun v i w' => ∃ t : Nat, t ≤ 8 ∧ i = .int .i64 (7 - (t : Int)) ∧ Grows w.heap.size v (bo (msg s.data.toList) (8 * k + t)) w' ∧ Below w.heap.size w w') (fun _ i _ => ((intOf i) + 1).toNat)
      case atStart => exact ⟨0, by omega, rfl, hG, hW⟩
      case round =>
        obtain ⟨t, ht, rfl, hG1, hW1⟩ := hrel
        by_cases htl : t < 8
        · have q1 : (0 : Int) ≤ 7 - (t : Int) := by omega
          obtain ⟨b, hbit⟩ : ∃ b, b = msg s.data.toList (8 * k + t) := ⟨_, rfl⟩
          have qb : (bits .and .i64 ((s[k].toNat : Int) / 2 ^ (7 - t)) 1 == 1) = b := by rw [hbit, HM.out t htl]; exact bit_of _ _
          have HB : Hid (b = msg s.data.toList (8 * k + t)) := hbit
          clear hbit
          have hG2 := hG1.alloc (.cells #[.bool b] 4)
          have hW2 := hW1.alloc hW1.size (.cells #[.bool b] 4)
          have hnew : ∀ j u, [Value.bool b][j]? = some u → (wr.alloc (.cells #[.bool b] 4)).cell? ⟨wr.heap.size, j, none⟩ = some u := fun j u hu => by
            rw [World.cell?_alloc_new]; simpa using hu
          have hlen : (bo (msg s.data.toList) (8 * k + t)).length = 8 * k + t := bo_len _ _
          go_wp2_with (first | (at_builtin; refine wpList_grow (by rfl) _ _ 124 4 (by rfl) i (.bool false) 1 Try.underlying124 hi hz0 hz1 hz2 rfl (by omega) w.heap.size u3 (bo (msg s.data.toList) (8 * k + t)) (by rfl) hG2 wr.heap.size 1 [.bool b] (by rfl) rfl hnew (by simp [Value.oneCell']) (by rw [bo_len]; omega) (by simp; have := hW1.size; omega) (by omega) ?_; intro g cap w2 hG3 hgrow))
          rw [HB.out, ← bo_succ, bo_len] at hG3
          go_roundw
          case rel => exact ⟨t + 1, by omega, by go_num, by rw [← Nat.add_assoc]; exact hG3, hW2.grown hgrow (Nat.le_trans hW1.size (by simp)) hG1.ge⟩
          case measure => simp [intOf]; omega
        · have q1 : ¬ (0 : Int) ≤ 7 - (t : Int) := by omega
          have ht8 : t = 8 := by omega
          subst ht8
          go_wp2_with fail
          go_roundw
          case rel => exact ⟨k + 1, by omega, by go_num, by rw [show 8 * (k + 1) = 8 * k + 8 by omega]; exact hG1, hW1⟩
          case measure => simp [intOf]; omega
    · have hge : ¬ (k : Int) < (s.size : Int) := by omega
      have hkn : k = s.size := by omega
      subst hkn
      go_wp2_with fail
      go_ret
      exact ⟨_, rfl, hG, hW⟩

/-- Bools that may be written over. -/
def BLs (g : Nat) (f : Nat → Bool) (n : Nat) (w : World) : Prop := ∀ k, k < n → w.cell? ⟨g, k, none⟩ = some (.bool (f k)) ∧ w.frozen? ⟨g, k, none⟩ = false
theorem BLs.set {g : Nat} {f : Nat → Bool} {n : Nat} {w : World} (h : BLs g f n w) (j : Nat) (hj : j < n) (b : Bool) : BLs g (fun k => if k = j then b else f k) n (w.setCell ⟨g, j, none⟩ (.bool b)) := fun k hk => by
  obtain ⟨hc, hf⟩ := h k hk
  obtain ⟨hc', hf'⟩ := h j hj
  refine ⟨?_, ?_⟩
  · by_cases e : k = j
    · subst e; simp; go_simp
    · simp only [if_neg e]
      rw [World.cell?_setCell_other _ _ _ _ (by intro he; cases he; exact e rfl)]; exact hc
  · go_simp
theorem BLs.congr {g : Nat} {f f' : Nat → Bool} {n : Nat} {w : World} (h : BLs g f n w) (e : ∀ k, k < n → f k = f' k) : BLs g f' n w := fun k hk => by
  rw [← e k hk]; exact h k hk
theorem BLs.below {g : Nat} {f : Nat → Bool} {n : Nat} {w w' : World} (h : BLs g f n w) (hW : Below w.heap.size w w') : BLs g f n w' := fun k hk => by
  have hg := World.block_lt_of_cell? w ⟨g, k, none⟩ (h k hk).1
  rw [hW.cell (p := ⟨g, k, none⟩) hg, hW.frozen (p := ⟨g, k, none⟩) hg]; exact h k hk
theorem Grows.bls {base : Nat} {v : Value} {f : Nat → Bool} {n : Nat} {w : World} (h : Grows base v (bo f n) w) (hn : 0 < n) : ∃ g cap, v = .slice (some ⟨g, 0, none⟩) n cap ∧ base ≤ g ∧ BLs g f n w := by
  rcases h with ⟨_, h⟩ | ⟨g, cap, rfl, h1, h2, h3, h4, h5⟩
  · have : (bo f n).length = 0 := by rw [h]; rfl
    rw [bo_len] at this; omega
  · refine ⟨g, cap, by rw [bo_len], h1, fun k hk => ⟨h4 k _ ?_, (h5 k (by rw [bo_len] at h3; omega)).2⟩⟩
    simp [bo, hk]

end Go.Proofs.Ytoaaklhpmhjhkaa
