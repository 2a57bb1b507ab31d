/-
  Plain mathematics: the twins of the reference's functions that take a right pattern apart. 'none': it would run beyond the end.
-/
import Derived.Test.YtoaaklhpmhjhkaaPlain
namespace Go.Proofs.Ytoaaklhpmhjhkaa
open Go.RowKit

theorem at_of_drop {s : ByteArray} {k : Nat} {c : UInt8} {r : List UInt8} (h : s.data.toList.drop k = c :: r) : ∃ hk : k < s.size, s[k] = c ∧ s.data.toList.drop (k + 1) = r := by
  have hk : k < s.size := by
    rcases Nat.lt_or_ge k s.size with h' | h'
    · exact h'
    · rw [List.drop_eq_nil_of_le (by simpa using h')] at h; cases h
  refine ⟨hk, ?_⟩
  rw [drop_cons s k hk] at h
  injection h with h1 h2
  exact ⟨h1, h2⟩

theorem bne_of {c d : UInt8} (h : c ≠ d) : ((c.toNat : Int) == (d.toNat : Int)) = false := by
  rw [beq_eq_false_iff_ne]; intro h'; exact h (UInt8.toNat_inj.1 (by omega))
theorem byte_lt (c : UInt8) : (c.toNat : Int) < 256 := by have := c.toNat_lt; omega
theorem byte_wrap (c : UInt8) : wrap64 (c.toNat : Int) = c.toNat := by
  have := c.toNat_lt
  unfold wrap64; omega

namespace Rf
/-- 'one': the byte that a text begins with, plain or by an escape; how many bytes that takes. -/
def one : List UInt8 → Option (Int × Nat)
  | [] => none
  | c :: r =>
    if c = 92 then
      match r with
      | [] => none
      | d :: r' =>
        if d = 110 then some (10, 2) else if d = 116 then some (9, 2)
        else if d = 120 then
          match r' with
          | x :: y :: _ => if hex x.toNat && hex y.toNat then some (number x.toNat * 16 + number y.toNat, 4) else none
          | _ => none
        else some (d.toNat, 2)
    else some (c.toNat, 1)
/-- The items of a set, up to its end: its place, the first that falls, the bytes. -/
def items : Nat → List UInt8 → Nat → Int → (Nat → Bool) → Option (Nat × Int × (Nat → Bool))
  | 0, _, _, _, _ => none
  | f + 1, l, i, falls, inn =>
    match l with
    | [] => none
    | c :: _ =>
      if c = 93 then some (i, falls, inn)
      else match one l with
        | none => none
        | some (a, n) =>
          match l.drop n with
          | [] => none
          | d :: l' =>
            if d = 45 then
              match one l' with
              | none => none
              | some (b, n') => items f (l'.drop n') (i + n + 1 + n') (if b < a ∧ falls < 0 then i else falls) (fun k => inn k || (decide (a ≤ k) && decide ((k : Int) ≤ b)))
            else items f (d :: l') (i + n) falls (fun k => inn k || (decide (a ≤ k) && decide ((k : Int) ≤ a)))
/-- 'set': of the text behind the opening bracket at i. -/
def set (l : List UInt8) (i : Nat) : Option (Nat × Int × (Nat → Bool)) :=
  match l with
  | [] => none
  | c :: r =>
    if c = 94 then (items (r.length + 1) r (i + 2) (-1) (fun _ => false)).map fun x => (x.1 + 1, x.2.1, fun k => x.2.2 k != true)
    else (items (r.length + 2) (c :: r) (i + 1) (-1) (fun _ => false)).map fun x => (x.1 + 1, x.2.1, fun k => x.2.2 k != false)
theorem one_bd {l : List UInt8} {v : Int} {n : Nat} (h : one l = some (v, n)) : 0 ≤ v ∧ v < 256 ∧ 1 ≤ n ∧ n ≤ 4 := by
  unfold one at h
  rcases l with _ | ⟨c, r⟩
  · cases h
  simp only at h
  split at h
  · rcases r with _ | ⟨d, r'⟩
    · cases h
    simp only at h
    split at h
    · simp at h; omega
    split at h
    · simp at h; omega
    split at h
    · rcases r' with _ | ⟨x, _ | ⟨y, r''⟩⟩
      · cases h
      · cases h
      simp only at h
      split at h
      · rename_i hxy
        rw [Bool.and_eq_true] at hxy
        have h1 := number_lt _ hxy.1
        have h2 := number_lt _ hxy.2
        simp only [Option.some.injEq, Prod.mk.injEq] at h
        omega
      · cases h
    · have := byte_lt d
      simp only [Option.some.injEq, Prod.mk.injEq] at h
      omega
  · have := byte_lt c
    simp only [Option.some.injEq, Prod.mk.injEq] at h
    omega
/-- 'value' from the place i on. -/
def valueFrom (p : List UInt8) : Nat → Nat → Option Int
  | 0, _ => none
  | f + 1, i =>
    match p.drop i with
    | [] => some (-1)
    | c :: r =>
      if c = 92 then
        match one (c :: r) with
        | none => none
        | some (_, n) => valueFrom p f (i + n)
      else if c = 91 then
        match set r i with
        | none => none
        | some (j, fa, _) => if 0 ≤ fa then some fa else valueFrom p f j
      else if c = 123 then
        match r with
        | x :: y :: r' =>
          if y = 44 then
            match r' with
            | z :: _ => if z.toNat < x.toNat then some i else valueFrom p f (i + 1)
            | [] => none
          else valueFrom p f (i + 1)
        | _ => none
      else valueFrom p f (i + 1)
/-- How many of the first k are true. -/
def cntTo (f : Nat → Bool) : Nat → Nat
  | 0 => 0
  | k + 1 => cntTo f k + if f k then 1 else 0
theorem cntTo_le (f : Nat → Bool) : ∀ k, cntTo f k ≤ k
  | 0 => Nat.le_refl _
  | k + 1 => by have := cntTo_le f k; unfold cntTo; split <;> omega
/-- 'empty' from the place i on. -/
def emptyFrom (p : List UInt8) : Nat → Nat → Option Int
  | 0, _ => none
  | f + 1, i =>
    match p.drop i with
    | [] => some (-1)
    | c :: r =>
      if c = 92 then
        match one (c :: r) with
        | none => none
        | some (_, n) => emptyFrom p f (i + n)
      else if c = 91 then
        match set r i with
        | none => none
        | some (j, _, inn) => if cntTo inn 256 = 0 then some i else emptyFrom p f j
      else emptyFrom p f (i + 1)
theorem items_ge {l : List UInt8} {f i j : Nat} {fa fb : Int} {inn inb : Nat → Bool} (h : items f l i fa inn = some (j, fb, inb)) : i ≤ j := by
  induction f generalizing l i fa inn with
  | zero => simp [items] at h
  | succ f ih =>
    unfold items at h
    rcases l with _ | ⟨c, r⟩
    · cases h
    simp only at h
    split at h
    · simp only [Option.some.injEq, Prod.mk.injEq] at h; omega
    rcases ho : one (c :: r) with _ | ⟨a, n⟩
    · rw [ho] at h; cases h
    rw [ho] at h
    simp only at h
    rcases hd : (c :: r).drop n with _ | ⟨d, l'⟩
    · rw [hd] at h; cases h
    rw [hd] at h
    simp only at h
    split at h
    · rcases ho2 : one l' with _ | ⟨b, n'⟩
      · rw [ho2] at h; cases h
      rw [ho2] at h
      have := ih h; omega
    · have := ih h; omega
theorem set_ge {l : List UInt8} {i j : Nat} {fb : Int} {inb : Nat → Bool} (h : set l i = some (j, fb, inb)) : i + 2 ≤ j := by
  unfold set at h
  rcases l with _ | ⟨c, r⟩
  · cases h
  simp only at h
  split at h
  · rcases hx : items (r.length + 1) r (i + 2) (-1) (fun _ => false) with _ | ⟨a, b, d⟩
    · rw [hx] at h; cases h
    rw [hx] at h
    have := items_ge hx
    simp only [Option.map_some, Option.some.injEq, Prod.mk.injEq] at h; omega
  · rcases hx : items (r.length + 2) (c :: r) (i + 1) (-1) (fun _ => false) with _ | ⟨a, b, d⟩
    · rw [hx] at h; cases h
    rw [hx] at h
    have := items_ge hx
    simp only [Option.map_some, Option.some.injEq, Prod.mk.injEq] at h; omega
end Rf
end Go.Proofs.Ytoaaklhpmhjhkaa
