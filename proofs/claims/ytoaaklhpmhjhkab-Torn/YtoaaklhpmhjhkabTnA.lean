/-
  Plain mathematics: bits turned over within 32 consecutive ones are told by the sum.
-/
import Derived.Test.YtoaaklhpmhjhkabRtB
namespace Go.Proofs.Ytoaaklhpmhjhkab
open Go.RowKit

/-- What is left behind n bits m, from r on. -/
def rg (r : Nat) (m : Nat → Bool) : Nat → Nat
  | 0 => r
  | i + 1 => bitStep (rg r m i) (m i)
theorem reg_rg (l : List UInt8) : ∀ i, reg l i = rg 4294967295 (msg l) i
  | 0 => rfl
  | i + 1 => by rw [reg, rg, reg_rg l i]
theorem dbl_xor (r x : Nat) : 2 * (r ^^^ x) % 4294967296 = (2 * r % 4294967296) ^^^ (2 * x % 4294967296) := by
  apply Nat.eq_of_testBit_eq
  intro i
  rw [Nat.testBit_xor, testBit_dbl, testBit_dbl, testBit_dbl, Nat.testBit_xor]
  cases decide (i < 32) <;> cases decide (1 ≤ i) <;> simp
theorem bitStep_xor (r x : Nat) (b c : Bool) : bitStep (r ^^^ x) (b ^^ c) = bitStep r b ^^^ bitStep x c := by
  unfold bitStep
  rw [dbl_xor, Nat.testBit_xor]
  have h : (if ((b ^^ c) ^^ (r.testBit 31 ^^ x.testBit 31)) = true then divr else 0) = (if (b ^^ r.testBit 31) = true then divr else 0) ^^^ (if (c ^^ x.testBit 31) = true then divr else 0) := by
    cases b <;> cases c <;> cases r.testBit 31 <;> cases x.testBit 31 <;> simp
  rw [h]
  generalize (if (b ^^ r.testBit 31) = true then divr else 0) = p
  generalize (if (c ^^ x.testBit 31) = true then divr else 0) = q
  apply Nat.eq_of_testBit_eq
  intro i
  simp only [Nat.testBit_xor]
  cases (2 * r % 4294967296).testBit i <;> cases (2 * x % 4294967296).testBit i <;> cases p.testBit i <;> cases q.testBit i <;> rfl
theorem rg_xor (r x : Nat) (m k : Nat → Bool) : ∀ n, rg (r ^^^ x) (fun i => m i ^^ k i) n = rg r m n ^^^ rg x k n
  | 0 => rfl
  | n + 1 => by rw [rg, rg, rg, rg_xor r x m k n, bitStep_xor]
theorem rg_congr {r : Nat} {m k : Nat → Bool} : ∀ n, (∀ i, i < n → m i = k i) → rg r m n = rg r k n
  | 0, _ => rfl
  | n + 1, h => by rw [rg, rg, rg_congr n (fun i hi => h i (by omega)), h n (by omega)]
theorem rg_add (r : Nat) (m : Nat → Bool) (a : Nat) : ∀ n, rg r m (a + n) = rg (rg r m a) (fun i => m (a + i)) n
  | 0 => rfl
  | n + 1 => by rw [← Nat.add_assoc, rg, rg, rg_add r m a n]
theorem rg_zero (n : Nat) : rg 0 (fun _ => false) n = 0 := by
  induction n with
  | zero => rfl
  | succ n ih => rw [rg, ih]; rfl
theorem bitStep_zero {r : Nat} (h : r < 4294967296) (h0 : bitStep r false = 0) : r = 0 := by
  have hb : r.testBit 31 = false := by
    cases hr : r.testBit 31
    · rfl
    · exfalso
      have h1 : (bitStep r false).testBit 0 = true := by
        unfold bitStep
        rw [hr, Nat.testBit_xor, testBit_dbl]
        rfl
      rw [h0] at h1
      simp at h1
  unfold bitStep at h0
  rw [hb] at h0
  simp at h0
  have : r < 2147483648 := by
    rw [Nat.testBit_eq_decide_div_mod_eq] at hb
    simp at hb
    omega
  omega
theorem rg_nought {r : Nat} (h : r < 4294967296) : ∀ n, rg r (fun _ => false) n = 0 → r = 0
  | 0, h0 => h0
  | n + 1, h0 => by
    rw [rg] at h0
    have hlt : rg r (fun _ => false) n < 4294967296 := by
      cases n with
      | zero => exact h
      | succ n => exact bitStep_lt _ _
    exact rg_nought h n (bitStep_zero hlt h0)
/-- A number that its own bits are taken from leaves nothing. -/
theorem rg_self (P : Nat) (h : P < 4294967296) : ∀ i, i ≤ 32 → rg P (fun k => P.testBit (31 - k)) i = P * 2 ^ i % 4294967296
  | 0, _ => by rw [rg, Nat.pow_zero, Nat.mul_one, Nat.mod_eq_of_lt h]
  | i + 1, hi => by
    rw [rg, rg_self P h i (by omega)]
    have ht : (P * 2 ^ i % 4294967296).testBit 31 = P.testBit (31 - i) := by
      rw [show (4294967296 : Nat) = 2 ^ 32 from rfl, Nat.testBit_mod_two_pow, Nat.mul_comm, Nat.testBit_two_pow_mul]
      simp; omega
    unfold bitStep
    rw [ht]
    simp only [Bool.xor_self, Bool.false_eq_true, if_false, Nat.xor_zero]
    rw [Nat.pow_succ, ← Nat.mul_assoc]
    generalize P * 2 ^ i = Q
    omega
theorem rg_self32 (P : Nat) (h : P < 4294967296) : rg P (fun k => P.testBit (31 - k)) 32 = 0 := by
  rw [rg_self P h 32 (by omega), show (2 : Nat) ^ 32 = 4294967296 from rfl]; omega
/-- 32 bits as a number. -/
def val (m : Nat → Bool) : Nat → Nat
  | 0 => 0
  | k + 1 => 2 * val m k + (m k).toNat
theorem val_lt (m : Nat → Bool) : ∀ k, val m k < 2 ^ k
  | 0 => by simp [val]
  | k + 1 => by
    have := val_lt m k
    rw [val, Nat.pow_succ]
    cases m k <;> simp <;> omega
theorem val_bit (m : Nat → Bool) : ∀ k j, j < k → (val m k).testBit j = m (k - 1 - j)
  | 0, j, h => by omega
  | k + 1, j, h => by
    rw [val]
    cases j with
    | zero =>
      rw [Nat.testBit_zero]
      simp only [Nat.add_sub_cancel, Nat.sub_zero]
      cases m k <;> simp <;> omega
    | succ j =>
      rw [Nat.testBit_succ, show (2 * val m k + (m k).toNat) / 2 = val m k by cases m k <;> simp <;> omega, val_bit m k j (by omega)]
      congr 1; omega
/-- Bits that all lie within 32 consecutive ones and leave nothing are none. -/
theorem burst0 (m : Nat → Bool) (a n : Nat) (hm : ∀ i, m i = true → a ≤ i ∧ i < a + 32) (h0 : rg 0 m n = 0) (hn : ∀ i, n ≤ i → m i = false) : ∀ i, m i = false := by
  have e0 : ∀ k, rg 0 m (n + k) = 0 := fun k => by
    rw [rg_add, h0, rg_congr k (k := fun _ => false) (fun i _ => hn _ (by omega)), rg_zero]
  have e1 : rg 0 m (a + (32 + n)) = 0 := by rw [show a + (32 + n) = n + (a + 32) by omega]; exact e0 _
  have ha : rg 0 m a = 0 := by
    rw [rg_congr a (k := fun _ => false) (fun i hi => ?_), rg_zero]
    cases h : m i
    · rfl
    · have := hm i h; omega
  rw [rg_add, ha, rg_add] at e1
  have hP := val_lt (fun k => m (a + k)) 32
  rw [show (2 : Nat) ^ 32 = 4294967296 from rfl] at hP
  have hbits : ∀ k, k < 32 → m (a + k) = (val (fun k => m (a + k)) 32).testBit (31 - k) := fun k hk => by
    rw [val_bit _ 32 (31 - k) (by omega)]
    congr 1; omega
  generalize val (fun k => m (a + k)) 32 = P at hP hbits
  have e2 : rg 0 (fun i => m (a + i)) 32 = rg P (fun _ => false) 32 := by
    rw [rg_congr 32 (k := fun i => false ^^ P.testBit (31 - i)) (fun i hi => by rw [hbits i hi]; simp)]
    have h := rg_xor P P (fun _ => false) (fun i => P.testBit (31 - i)) 32
    rw [Nat.xor_self, rg_self32 P hP, Nat.xor_zero] at h
    exact h
  have e3 : rg (rg 0 (fun i => m (a + i)) 32) (fun _ => false) n = 0 := by
    refine Eq.trans (rg_congr n (fun i _ => ?_)) e1
    cases h : m (a + (32 + i))
    · rfl
    · have := hm _ h; omega
  have hlt : rg 0 (fun i => m (a + i)) 32 < 4294967296 := bitStep_lt _ _
  have e4 := rg_nought hlt n e3
  rw [e2] at e4
  have hP0 := rg_nought hP 32 e4
  intro i
  cases h : m i
  · rfl
  · obtain ⟨h1, h2⟩ := hm i h
    have := hbits (i - a) (by omega)
    rw [show a + (i - a) = i by omega, h, hP0] at this
    simp at this
theorem msg_left (l r : List UInt8) (i : Nat) (h : i < 8 * l.length) : msg (l ++ r) i = msg l i := by
  unfold msg
  have h1 : i / 8 < l.length := by omega
  rw [List.getD_eq_getElem?_getD, List.getElem?_append_left h1, ← List.getD_eq_getElem?_getD]
  simp [h]; omega
theorem msg_right (l r : List UInt8) (k : Nat) : msg (l ++ r) (8 * l.length + k) = msg r k := by
  unfold msg
  have h1 : (8 * l.length + k) / 8 = l.length + k / 8 := by omega
  have h2 : (8 * l.length + k) % 8 = k % 8 := by omega
  rw [h1, h2, List.getD_eq_getElem?_getD, List.getElem?_append_right (by omega), ← List.getD_eq_getElem?_getD, show l.length + k / 8 - l.length = k / 8 by omega]
  congr 1
  simp; omega
theorem sum_bit (l : List UInt8) (k : Nat) (hk : k < 32) : msg (sumL l) k = (crc l).testBit (31 - k) := by
  have hc : crc l < 4294967296 := by unfold crc; omega
  have b : ∀ (x : Nat) (t : Nat), t < 8 → (byteOf ((x : Nat) : Int)).toNat.testBit t = x.testBit t := fun x t ht => by
    have := byteOf_toNat (x : Int)
    have h2 : (byteOf (x : Int)).toNat = x % 256 := by omega
    rw [h2, show (256 : Nat) = 2 ^ 8 from rfl, Nat.testBit_mod_two_pow]
    simp [ht]
  have hd : ∀ (t s : Nat), (crc l / 2 ^ t).testBit s = (crc l).testBit (t + s) := fun t s => by
    rw [Nat.testBit_div_two_pow, Nat.add_comm]
  unfold msg
  have h1 : decide (k < 8 * (sumL l).length) = true := by
    have : (sumL l).length = 4 := rfl
    rw [this]; simp; omega
  rw [h1, Bool.true_and]
  have hq : k / 8 = 0 ∨ k / 8 = 1 ∨ k / 8 = 2 ∨ k / 8 = 3 := by omega
  unfold sumL
  rcases hq with h | h | h | h
  · rw [h]
    show (byteOf ((crc l / 16777216 : Nat) : Int)).toNat.testBit (7 - k % 8) = _
    rw [b _ _ (by omega), show (16777216 : Nat) = 2 ^ 24 from rfl, hd]; congr 1; omega
  · rw [h]
    show (byteOf ((crc l / 65536 : Nat) : Int)).toNat.testBit (7 - k % 8) = _
    rw [b _ _ (by omega), show (65536 : Nat) = 2 ^ 16 from rfl, hd]; congr 1; omega
  · rw [h]
    show (byteOf ((crc l / 256 : Nat) : Int)).toNat.testBit (7 - k % 8) = _
    rw [b _ _ (by omega), show (256 : Nat) = 2 ^ 8 from rfl, hd]; congr 1; omega
  · rw [h]
    show (byteOf ((crc l : Nat) : Int)).toNat.testBit (7 - k % 8) = _
    rw [b _ _ (by omega)]; congr 1; omega
/-- What is left behind a file with its sum is always the same. -/
theorem resid (l : List UInt8) : rg 4294967295 (msg (l ++ sumL l)) (8 * l.length + 32) = rg 0 (fun _ => true) 32 := by
  rw [rg_add, rg_congr (8 * l.length) (fun i hi => msg_left l (sumL l) i hi), ← reg_rg]
  have hR := reg_lt l (8 * l.length)
  have hbit : ∀ k, k < 32 → msg (l ++ sumL l) (8 * l.length + k) = ((reg l (8 * l.length)).testBit (31 - k) ^^ true) := fun k hk => by
    rw [msg_right, sum_bit l k hk, crc_bit l _ (by omega)]; simp
  rw [rg_congr 32 hbit]
  generalize reg l (8 * l.length) = R at *
  have h := rg_xor R 0 (fun k => R.testBit (31 - k)) (fun _ => true) 32
  rw [Nat.xor_zero, rg_self32 R hR, Nat.zero_xor] at h
  exact h
theorem sum_cut {s : ByteArray} (h : sumB s = true) : ∃ l, s.data.toList = l ++ sumL l := by
  refine ⟨s.data.toList.take (s.size - 4), ?_⟩
  unfold sumB at h
  rw [beq_iff_eq, ByteArray.toList_eq, ByteArray.toList_eq] at h
  have hs : s = ⟨s.data.toList.toArray⟩ := by
    apply ByteArray.ext
    simp
  have hl : s.data.toList.length = s.size := by simp
  have x1 : (s.extract (s.size - 4) s.size).data.toList = s.data.toList.drop (s.size - 4) := by
    have := ext_list s.data.toList (s.size - 4) s.size
    rw [← hs] at this
    rw [this, List.take_of_length_le (by omega)]
  have x2 : (s.extract 0 (s.size - 4)).data.toList = s.data.toList.take (s.size - 4) := by
    have := ext_list s.data.toList 0 (s.size - 4)
    rw [← hs] at this
    rw [this, List.drop_zero]
  rw [x1, x2] at h
  simp only at h
  rw [← h, List.take_append_drop]
theorem msg_inj {l r : List UInt8} (hz : l.length = r.length) (h : ∀ i, i < 8 * l.length → msg l i = msg r i) : l = r := by
  refine List.ext_getElem hz (fun i h1 h2 => ?_)
  apply UInt8.toNat_inj.1
  apply Nat.eq_of_testBit_eq
  intro t
  by_cases ht : t < 8
  · have e := h (8 * i + (7 - t)) (by omega)
    rw [msg_at l i (7 - t) h1 (by omega), msg_at r i (7 - t) h2 (by omega), show 7 - (7 - t) = t by omega] at e
    exact e
  · have b1 := l[i].toNat_lt
    have b2 := r[i].toNat_lt
    have p : (2 : Nat) ^ 8 ≤ 2 ^ t := Nat.pow_le_pow_right (by omega) (by omega)
    rw [Nat.testBit_lt_two_pow (by omega), Nat.testBit_lt_two_pow (by omega)]
/-- Of two files of one length that end with their sums, and whose bits are the same but within 32 consecutive ones: they are the same. -/
theorem burst {s s' : ByteArray} (hz : s.size = s'.size) (h : sumB s = true) (h' : sumB s' = true) (a : Nat)
    (hb : ∀ i, i < 8 * s.size → msg s.data.toList i ≠ msg s'.data.toList i → a ≤ i ∧ i < a + 32) : s = s' := by
  obtain ⟨l, hl⟩ := sum_cut h
  obtain ⟨r, hr⟩ := sum_cut h'
  have z1 : s.size = l.length + 4 := by
    have : s.data.toList.length = s.size := by simp
    rw [← this, hl, List.length_append]; rfl
  have z2 : s'.size = r.length + 4 := by
    have : s'.data.toList.length = s'.size := by simp
    rw [← this, hr, List.length_append]; rfl
  have e1 := resid l
  have e2 := resid r
  rw [← hl] at e1
  rw [← hr] at e2
  have hlr : l.length = r.length := by omega
  rw [← hlr, ← e1] at e2
  have e3 := rg_xor 4294967295 4294967295 (msg s.data.toList) (msg s'.data.toList) (8 * l.length + 32)
  rw [e2, Nat.xor_self, Nat.xor_self] at e3
  have hN : 8 * l.length + 32 = 8 * s.size := by omega
  rw [hN] at e3
  have e4 : rg 0 (fun i => decide (i < 8 * s.size) && (msg s.data.toList i ^^ msg s'.data.toList i)) (8 * s.size) = 0 := by
    exact Eq.trans (rg_congr _ (fun i hi => by simp [hi])) e3
  have e5 := burst0 _ a (8 * s.size) (fun i hi => ?_) e4 (fun i hi => by simp; omega)
  · have hq : s.data.toList = s'.data.toList := by
      refine msg_inj (by simp; omega) (fun i hi => ?_)
      have hi' : i < 8 * s.size := by simpa using hi
      have := e5 i
      simp only [hi', decide_true, Bool.true_and] at this
      cases hx : msg s.data.toList i <;> cases hy : msg s'.data.toList i <;> simp_all
    apply ByteArray.ext
    exact Array.toList_inj.1 hq
  · simp only [Bool.and_eq_true, decide_eq_true_eq] at hi
    exact hb i hi.1 (fun e => by rw [e] at hi; simp at hi)
/-- Good files that begin with the same ten bytes are equally long. -/
theorem good_len {s s' : ByteArray} (h : Good s) (h' : Good s') (hb : ∀ i, i < 10 → fb s i = fb s' i) : s.size = s'.size := by
  have n6 : num s 6 1 = num s' 6 1 := by simp only [num]; rw [hb 6 (by omega)]
  have n7 : num s 7 2 = num s' 7 2 := by simp only [num]; rw [hb 7 (by omega), hb 8 (by omega)]
  have n9 : num s 9 1 = num s' 9 1 := by simp only [num]; rw [hb 9 (by omega)]
  have e := h.2.1.2.2
  rw [n6, n7, n9] at e
  rw [e, h'.2.1.2.2]
theorem good_ten {s : ByteArray} (h : Good s) : 10 ≤ s.size := h.2.1.1
/-- What is cut from a good file's end, or put behind it, makes it no good file. -/
theorem good_cut {l r : List UInt8} (h : Good ⟨(l ++ r).toArray⟩) (h' : Good ⟨l.toArray⟩) : r = [] := by
  have h10 := good_ten h'
  have z1 : (⟨l.toArray⟩ : ByteArray).size = l.length := by simp [ByteArray.size]
  have z2 : (⟨(l ++ r).toArray⟩ : ByteArray).size = (l ++ r).length := by simp [ByteArray.size]
  have e := good_len h h' (fun i hi => by rw [fb_list, fb_list, fbL_left _ _ _ (by omega)])
  rw [z1, z2, List.length_append] at e
  exact List.eq_nil_of_length_eq_zero (by omega)
end Go.Proofs.Ytoaaklhpmhjhkab
