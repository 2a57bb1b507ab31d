/-
  Plain mathematics: the sum of a file's bytes.
-/
import Derived.Test.YtoaaklhpmhjhkaaEncA
namespace Go.Proofs.Ytoaaklhpmhjhkaa
open Go.RowKit

def divr : Nat := 79764919
/-- Bit j of the bytes, of each byte the highest first; noughts behind. -/
def msg (l : List UInt8) (j : Nat) : Bool := decide (j < 8 * l.length) && (l.getD (j / 8) 0).toNat.testBit (7 - j % 8)
def bitStep (r : Nat) (b : Bool) : Nat := (2 * r % 4294967296) ^^^ (if (b ^^ r.testBit 31) then divr else 0)
/-- What is left behind i bits. -/
def reg (l : List UInt8) : Nat → Nat
  | 0 => 4294967295
  | i + 1 => bitStep (reg l i) (msg l i)
theorem bitStep_lt (r : Nat) (b : Bool) : bitStep r b < 4294967296 := by
  have : bitStep r b < 2 ^ 32 := Nat.xor_lt_two_pow (by omega) (by split <;> simp [divr])
  simpa using this
theorem reg_lt (l : List UInt8) : ∀ i, reg l i < 4294967296
  | 0 => by simp [reg]
  | i + 1 => bitStep_lt _ _
theorem testBit_dbl (x t : Nat) : (2 * x % 4294967296).testBit t = (decide (t < 32) && decide (1 ≤ t) && x.testBit (t - 1)) := by
  rw [show (4294967296 : Nat) = 2 ^ 32 from rfl, Nat.testBit_mod_two_pow]
  rcases t with _ | t
  · simp
  · rw [Nat.testBit_succ, show 2 * x / 2 = x by omega]; simp
def crcStep (r : Nat) : Nat := bitStep r false
theorem crc_xor (r x : Nat) : crcStep (r ^^^ x) = bitStep r (x.testBit 31) ^^^ (2 * x % 4294967296) := by
  unfold crcStep bitStep
  have h : 2 * (r ^^^ x) % 4294967296 = (2 * r % 4294967296) ^^^ (2 * x % 4294967296) := by
    apply Nat.eq_of_testBit_eq
    intro i
    rw [Nat.testBit_xor, testBit_dbl, testBit_dbl, testBit_dbl, Nat.testBit_xor]
    cases decide (i < 32) <;> cases decide (1 ≤ i) <;> simp
  rw [h, Nat.testBit_xor, Bool.false_xor, Bool.xor_comm (x.testBit 31)]
  rw [Nat.xor_assoc, Nat.xor_comm (2 * x % 4294967296), ← Nat.xor_assoc]
/-- Where the rest of a byte stands behind k steps. -/
def left24 (b : UInt8) (k : Nat) : Nat := b.toNat * 2 ^ (24 + k) % 4294967296
theorem left24_lt (b : UInt8) (k : Nat) : left24 b k < 4294967296 := Nat.mod_lt _ (by omega)
theorem left24_succ (b : UInt8) (k : Nat) : 2 * left24 b k % 4294967296 = left24 b (k + 1) := by
  unfold left24
  rw [show 24 + (k + 1) = (24 + k) + 1 by omega, Nat.pow_succ, ← Nat.mul_assoc]
  omega
theorem left24_eight (b : UInt8) : left24 b 8 = 0 := by
  unfold left24
  rw [show (2 : Nat) ^ (24 + 8) = 4294967296 by decide]; omega
theorem left24_zero (b : UInt8) : left24 b 0 = b.toNat * 16777216 := by
  have := b.toNat_lt
  unfold left24
  rw [show (2 : Nat) ^ (24 + 0) = 16777216 by decide]; omega
theorem left24_top (b : UInt8) (k : Nat) (hk : k < 8) : (left24 b k).testBit 31 = b.toNat.testBit (7 - k) := by
  unfold left24
  rw [show (4294967296 : Nat) = 2 ^ 32 from rfl, Nat.testBit_mod_two_pow, Nat.mul_comm, Nat.testBit_two_pow_mul]
  rw [show 31 - (24 + k) = 7 - k by omega]
  simp; omega
theorem msg_at (l : List UInt8) (i k : Nat) (hi : i < l.length) (hk : k < 8) : msg l (8 * i + k) = l[i].toNat.testBit (7 - k) := by
  unfold msg
  rw [show (8 * i + k) / 8 = i by omega, show (8 * i + k) % 8 = k by omega, List.getD_eq_getElem?_getD, List.getElem?_eq_getElem hi]
  simp; omega
/-- One step of the program within a byte. -/
theorem sum_step (l : List UInt8) (i k : Nat) (hi : i < l.length) (hk : k < 8) : crcStep (reg l (8 * i + k) ^^^ left24 l[i] k) = reg l (8 * i + (k + 1)) ^^^ left24 l[i] (k + 1) := by
  rw [crc_xor, left24_top _ _ hk, left24_succ, ← Nat.add_assoc, reg, msg_at l i k hi hk]
theorem sum_byte (l : List UInt8) (i : Nat) (b : UInt8) : reg l (8 * i + 8) ^^^ left24 b 8 = reg l (8 * (i + 1)) := by
  rw [left24_eight, Nat.xor_zero]; rfl
theorem crcStep_hi {x : Nat} (h : 2147483648 ≤ x) (hx : x < 4294967296) : crcStep x = (2 * x % 4294967296) ^^^ 79764919 := by
  have : x.testBit 31 = true := by
    rw [Nat.testBit_eq_decide_div_mod_eq]; simp; omega
  simp [crcStep, bitStep, this, divr]
theorem crcStep_lo {x : Nat} (h : x < 2147483648) : crcStep x = 2 * x % 4294967296 := by
  have : x.testBit 31 = false := by
    rw [Nat.testBit_eq_decide_div_mod_eq]; simp; omega
  simp [crcStep, bitStep, this]
/-- The sum's number, and its bytes. -/
def crc (l : List UInt8) : Nat := 4294967295 - reg l (8 * l.length)
theorem crc_bit (l : List UInt8) (t : Nat) (ht : t < 32) : (crc l).testBit t = !(reg l (8 * l.length)).testBit t := by
  have h := reg_lt l (8 * l.length)
  unfold crc
  generalize reg l (8 * l.length) = r at *
  have : 4294967295 - r = 2 ^ 32 - (r + 1) := by omega
  rw [this, Nat.testBit_two_pow_sub_succ (by omega)]
  simp [ht]
def sumL (l : List UInt8) : List UInt8 := [byteOf ((crc l / 16777216 : Nat) : Int), byteOf ((crc l / 65536 : Nat) : Int), byteOf ((crc l / 256 : Nat) : Int), byteOf ((crc l : Nat) : Int)]
/-- The list that the reference divides, behind i bits: what lies at j. -/
def divL (l : List UInt8) (i j : Nat) : Bool := if j < i then false else msg l j ^^ (decide (j < i + 32) && (reg l i).testBit (31 - (j - i)))
/-- .. within the step i, k places of the divisor having been taken off. -/
def divK (l : List UInt8) (i k j : Nat) : Bool := if j = i then false else divL l i j ^^ (divL l i i && decide (i + 32 - k < j) && decide (j ≤ i + 32) && divr.testBit (i + 32 - j))
theorem divL_top (l : List UInt8) (i : Nat) : divL l i i = (msg l i ^^ (reg l i).testBit 31) := by simp [divL]
theorem divK_zero (l : List UInt8) (i j : Nat) (h : j ≠ i) : divK l i 0 j = divL l i j := by
  unfold divK
  rw [if_neg h]
  by_cases h1 : i + 32 - 0 < j
  · have : ¬ j ≤ i + 32 := by omega
    simp [this]
  · have e : decide (i + 32 - 0 < j) = false := decide_eq_false h1
    rw [e]; simp
theorem divK_self (l : List UInt8) (i k : Nat) : divK l i k i = false := by simp [divK]
theorem divL_noflip (l : List UInt8) (i j : Nat) (h : divL l i i = false) : divL l (i + 1) j = divL l i j := by
  rw [divL_top] at h
  unfold divL
  by_cases h1 : j < i
  · rw [if_pos (by omega), if_pos h1]
  by_cases h2 : j = i
  · subst h2
    rw [if_pos (by omega), if_neg (by omega)]
    simp [h]
  rw [if_neg (by omega), if_neg h1, reg, bitStep, h]
  simp only [Bool.false_eq_true, if_false, Nat.xor_zero, testBit_dbl]
  by_cases h3 : j < i + 32
  · have e1 : decide (j < i + 1 + 32) = true := by simp; omega
    have e2 : decide (31 - (j - (i + 1)) < 32) = true := by simp; omega
    have e3 : decide (1 ≤ 31 - (j - (i + 1))) = true := by simp; omega
    rw [e1, e2, e3, show 31 - (j - (i + 1)) - 1 = 31 - (j - i) by omega]
    simp [h3]
  · by_cases h4 : j = i + 32
    · subst h4
      simp
    · have e1 : decide (j < i + 1 + 32) = false := by simp; omega
      simp [e1, h3]
theorem divK_all (l : List UInt8) (i j : Nat) (h : divL l i i = true) : divK l i 32 j = divL l (i + 1) j := by
  have h' := h
  rw [divL_top] at h'
  unfold divK
  by_cases h2 : j = i
  · subst h2
    rw [if_pos rfl, divL, if_pos (by omega)]
  rw [if_neg h2, h]
  unfold divL
  by_cases h1 : j < i
  · rw [if_pos h1, if_pos (by omega)]
    have e : decide (i + 32 - 32 < j) = false := decide_eq_false (by omega)
    rw [e]; simp
  rw [if_neg h1, if_neg (by omega), reg, bitStep, h']
  simp only [if_true, Nat.testBit_xor, testBit_dbl]
  have e0 : decide (i + 32 - 32 < j) = true := by simp; omega
  rw [e0]
  by_cases h3 : j < i + 32
  · have e1 : decide (j < i + 1 + 32) = true := by simp; omega
    have e2 : decide (31 - (j - (i + 1)) < 32) = true := by simp; omega
    have e3 : decide (1 ≤ 31 - (j - (i + 1))) = true := by simp; omega
    have e4 : decide (j ≤ i + 32) = true := by simp; omega
    rw [e1, e2, e3, e4, show 31 - (j - (i + 1)) - 1 = 31 - (j - i) by omega, show 31 - (j - (i + 1)) = i + 32 - j by omega]
    simp [h3]
  · by_cases h4 : j = i + 32
    · subst h4
      simp
    · have e1 : decide (j < i + 1 + 32) = false := by simp; omega
      have e4 : decide (j ≤ i + 32) = false := by simp; omega
      simp [e1, h3, e4]
theorem divK_succ (l : List UInt8) (i k j : Nat) (hk : k < 32) (h : divL l i i = true) : divK l i (k + 1) j = if j = i + 32 - k ∧ divr.testBit k = true then !divK l i k j else divK l i k j := by
  unfold divK
  by_cases h2 : j = i
  · rw [if_pos h2, if_neg (by omega), if_pos h2]
  rw [if_neg h2, if_neg h2, h]
  by_cases h3 : j = i + 32 - k
  · subst h3
    have e1 : decide (i + 32 - (k + 1) < i + 32 - k) = true := by simp; omega
    have e2 : decide (i + 32 - k < i + 32 - k) = false := by simp
    have e3 : decide (i + 32 - k ≤ i + 32) = true := by simp
    rw [e1, e2, e3, show i + 32 - (i + 32 - k) = k by omega]
    cases divr.testBit k <;> simp
  · rw [if_neg (fun h => h3 h.1)]
    by_cases h4 : j ≤ i + 32
    · by_cases h5 : i + 32 - k < j
      · have e1 : decide (i + 32 - (k + 1) < j) = true := decide_eq_true (by omega)
        have e2 : decide (i + 32 - k < j) = true := decide_eq_true h5
        rw [e1, e2]
      · have e1 : decide (i + 32 - (k + 1) < j) = false := decide_eq_false (by omega)
        have e2 : decide (i + 32 - k < j) = false := decide_eq_false h5
        rw [e1, e2]
    · simp [h4]
/-- The list as it is at first: 32 noughts behind, the first 32 turned over. -/
theorem divL_zero (l : List UInt8) (j : Nat) : divL l 0 j = (msg l j ^^ decide (j < 32)) := by
  unfold divL
  rw [if_neg (by omega), reg]
  by_cases h : j < 32
  · have : (4294967295 : Nat).testBit (31 - j) = true := by
      rw [show (4294967295 : Nat) = 2 ^ 32 - 1 from rfl, Nat.testBit_two_pow_sub_one]; simp; omega
    simp [h, this]
  · simp [h]
theorem divL_end (l : List UInt8) (k : Nat) (hk : k < 32) : divL l (8 * l.length) (8 * l.length + k) = !(crc l).testBit (31 - k) := by
  rw [crc_bit l _ (by omega)]
  unfold divL
  rw [if_neg (by omega)]
  have : msg l (8 * l.length + k) = false := by
    have h : decide (8 * l.length + k < 8 * l.length) = false := decide_eq_false (by omega)
    unfold msg; rw [h]; rfl
  rw [this, show 8 * l.length + k - 8 * l.length = k by omega]
  simp [hk]
end Go.Proofs.Ytoaaklhpmhjhkaa
