/-
  Plain mathematics: the twins of the reference's functions that cut a right pattern's text (tree.go): atom, suffixed, piece, split, counts, size and places.
-/
import Derived.Test.YtoaaklhpmhjhkaaPlainB
namespace Go.Proofs.Ytoaaklhpmhjhkaa
open Go.RowKit
/-- The sum of the first n. -/
def sumTo (vs : Nat → Int) : Nat → Int
  | 0 => 0
  | n + 1 => sumTo vs n + vs n
namespace Rf
/-- The end of a group that began ahead of the place i, with o open. -/
def groupFrom (p : List UInt8) : Nat → Nat → Int → Option Nat
  | 0, _, _ => none
  | f + 1, i, o =>
    match p.drop i with
    | [] => some 1
    | c :: r =>
      if c = 92 then
        match one (c :: r) with
        | none => none
        | some (_, n) => groupFrom p f (i + n) o
      else if c = 91 then
        match set r i with
        | none => none
        | some (j, _, _) => groupFrom p f j o
      else if c = 40 then groupFrom p f (i + 1) (o + 1)
      else if c = 41 then (if o - 1 = 0 then some (i + 1) else groupFrom p f (i + 1) (o - 1))
      else groupFrom p f (i + 1) o
def atom (l : List UInt8) : Option Nat :=
  match l with
  | [] => none
  | c :: r =>
    if c = 92 then (one (c :: r)).map (·.2)
    else if c = 91 then (set r 0).map (·.1)
    else if c = 40 then groupFrom (c :: r) (r.length + 2) 0 0
    else some 1
/-- Behind the first brace that shuts, from the place i on. -/
def closeFrom (p : List UInt8) : Nat → Nat → Option Nat
  | 0, _ => none
  | f + 1, i =>
    match p.drop i with
    | [] => none
    | c :: _ => if c = 125 then some (i + 1) else closeFrom p f (i + 1)
def suffixed (p : List UInt8) (i : Nat) : Option Nat :=
  match p.drop i with
  | [] => none
  | c :: _ => if c = 123 then closeFrom p (p.length + 1) i else some (i + 1)
def suffixes : List UInt8 := [42, 43, 63, 123]
def pieceFrom (p : List UInt8) : Nat → Nat → Option Nat
  | 0, _ => none
  | f + 1, n =>
    match p.drop n with
    | [] => some n
    | c :: _ =>
      if has suffixes c.toNat then
        match suffixed p n with
        | none => none
        | some n' => pieceFrom p f n'
      else some n
def piece (l : List UInt8) : Option Nat :=
  match atom l with
  | none => none
  | some n => pieceFrom l (l.length + 1) n
def splitFrom (p : List UInt8) : Nat → Nat → Nat → Option Nat
  | 0, _, _ => none
  | f + 1, n, cut =>
    match p.drop n with
    | [] => some cut
    | _ :: _ =>
      match suffixed p n with
      | none => none
      | some n' => splitFrom p f n' n
def split (l : List UInt8) : Option Nat :=
  match atom l with
  | none => none
  | some n => splitFrom l (l.length + 1) n n
/-- The greater number of a count. -/
def most : List UInt8 → Option Int
  | _ :: x :: y :: r =>
    if digit x.toNat then
      if y = 44 then
        match r with
        | z :: _ => if digit z.toNat then some ((z.toNat : Int) - 48) else none
        | [] => none
      else some ((x.toNat : Int) - 48)
    else none
  | _ => none
/-- true: 'places' of a pattern's text; false: 'size' of a piece's. -/
def cnt : Nat → Bool → List UInt8 → Option Int
  | 0, _, _ => none
  | f + 1, true, l =>
    match l with
    | [] => some 0
    | c :: r =>
      if c = 124 then cnt f true r
      else match piece (c :: r) with
        | none => none
        | some k =>
          match cnt f false ((c :: r).take k), cnt f true ((c :: r).drop k) with
          | some a, some b => some (a + b)
          | _, _ => none
  | f + 1, false, l =>
    match split l with
    | none => none
    | some cut =>
      match l.drop cut with
      | u :: us =>
        match cnt f false (l.take cut) with
        | none => none
        | some n => if u = 123 then (most (u :: us)).map (n * ·) else some n
      | [] =>
        match l with
        | [] => none
        | c :: r => if c = 40 then (if r.length = 0 then none else cnt f true (r.take (r.length - 1))) else some 1
theorem closeFrom_gt {p : List UInt8} {f i n : Nat} (h : closeFrom p f i = some n) : i < n ∧ n ≤ p.length := by
  induction f generalizing i with
  | zero => simp [closeFrom] at h
  | succ f ih =>
    unfold closeFrom at h
    rcases hd : p.drop i with _ | ⟨c, r⟩
    · rw [hd] at h; cases h
    rw [hd] at h
    have hi : i < p.length := by
      rcases Nat.lt_or_ge i p.length with h' | h'
      · exact h'
      · rw [List.drop_eq_nil_of_le h'] at hd; cases hd
    simp only at h
    split at h
    · simp at h; omega
    · have := ih h; omega
theorem suffixed_gt {p : List UInt8} {i n : Nat} (h : suffixed p i = some n) : i < n := by
  unfold suffixed at h
  rcases hd : p.drop i with _ | ⟨c, r⟩
  · rw [hd] at h; cases h
  rw [hd] at h
  simp only at h
  split at h
  · exact (closeFrom_gt h).1
  · simp at h; omega
theorem suffixed_le {p : List UInt8} {i n : Nat} (h : suffixed p i = some n) : n ≤ p.length := by
  unfold suffixed at h
  rcases hd : p.drop i with _ | ⟨c, r⟩
  · rw [hd] at h; cases h
  rw [hd] at h
  have hi : i < p.length := by
    rcases Nat.lt_or_ge i p.length with h' | h'
    · exact h'
    · rw [List.drop_eq_nil_of_le h'] at hd; cases hd
  simp only at h
  split at h
  · exact (closeFrom_gt h).2
  · simp at h; omega
theorem splitFrom_le {p : List UInt8} {f n c r : Nat} (h : splitFrom p f n c = some r) : c ≤ p.length → r ≤ p.length := by
  induction f generalizing n c with
  | zero => simp [splitFrom] at h
  | succ f ih =>
    intro hc
    unfold splitFrom at h
    rcases hd : p.drop n with _ | ⟨x, y⟩
    · rw [hd] at h; simp at h; omega
    rw [hd] at h
    have hi : n < p.length := by
      rcases Nat.lt_or_ge n p.length with h' | h'
      · exact h'
      · rw [List.drop_eq_nil_of_le h'] at hd; cases hd
    simp only at h
    rcases hs : suffixed p n with _ | n'
    · rw [hs] at h; cases h
    rw [hs] at h
    exact ih h (by omega)
theorem one_le {l : List UInt8} {v : Int} {n : Nat} (h : one l = some (v, n)) : n ≤ l.length := by
  unfold one at h
  rcases l with _ | ⟨c, r⟩
  · cases h
  simp only at h
  split at h
  · rcases r with _ | ⟨d, r'⟩
    · cases h
    simp only at h
    split at h
    · simp at h; simp; omega
    split at h
    · simp at h; simp; omega
    split at h
    · rcases r' with _ | ⟨x, _ | ⟨y, r''⟩⟩
      · cases h
      · cases h
      simp only at h
      split at h
      · simp only [Option.some.injEq, Prod.mk.injEq] at h
        simp; omega
      · cases h
    · simp only [Option.some.injEq, Prod.mk.injEq] at h
      simp; omega
  · simp only [Option.some.injEq, Prod.mk.injEq] at h
    simp; omega
theorem items_lt {l : List UInt8} {f i j : Nat} {fa fb : Int} {inn inb : Nat → Bool} (h : items f l i fa inn = some (j, fb, inb)) : j < i + l.length := by
  induction f generalizing l i fa inn with
  | zero => simp [items] at h
  | succ f ih =>
    unfold items at h
    rcases l with _ | ⟨c, r⟩
    · cases h
    simp only at h
    split at h
    · simp only [Option.some.injEq, Prod.mk.injEq] at h; simp; omega
    rcases ho : one (c :: r) with _ | ⟨a, n⟩
    · rw [ho] at h; cases h
    rw [ho] at h
    simp only at h
    have hn := one_le ho
    rcases hd : (c :: r).drop n with _ | ⟨d, l'⟩
    · rw [hd] at h; cases h
    have hl : (d :: l').length = (c :: r).length - n := by rw [← hd]; simp
    rw [hd] at h
    simp only at h
    split at h
    · rcases ho2 : one l' with _ | ⟨b, n'⟩
      · rw [ho2] at h; cases h
      rw [ho2] at h
      have hn' := one_le ho2
      have := ih h
      simp only [List.length_drop, List.length_cons] at *
      omega
    · have := ih h
      simp only [List.length_cons] at *
      omega
theorem set_le {l : List UInt8} {i j : Nat} {fb : Int} {inb : Nat → Bool} (h : set l i = some (j, fb, inb)) : j ≤ i + 1 + l.length := by
  unfold set at h
  rcases l with _ | ⟨c, r⟩
  · cases h
  simp only at h
  split at h
  · rcases hx : items (r.length + 1) r (i + 2) (-1) (fun _ => false) with _ | ⟨a, b, d⟩
    · rw [hx] at h; cases h
    rw [hx] at h
    have := items_lt hx
    simp only [Option.map_some, Option.some.injEq, Prod.mk.injEq] at h; simp; omega
  · rcases hx : items (r.length + 2) (c :: r) (i + 1) (-1) (fun _ => false) with _ | ⟨a, b, d⟩
    · rw [hx] at h; cases h
    rw [hx] at h
    have := items_lt hx
    simp only [Option.map_some, Option.some.injEq, Prod.mk.injEq] at h; simp at *; omega
theorem groupFrom_le {p : List UInt8} {f i n : Nat} {o : Int} (h : groupFrom p f i o = some n) : 1 ≤ n ∧ (1 ≤ p.length → n ≤ p.length) := by
  induction f generalizing i o with
  | zero => simp [groupFrom] at h
  | succ f ih =>
    unfold groupFrom at h
    rcases hd : p.drop i with _ | ⟨c, r⟩
    · rw [hd] at h; simp at h; omega
    rw [hd] at h
    have hi : i < p.length := by
      rcases Nat.lt_or_ge i p.length with h' | h'
      · exact h'
      · rw [List.drop_eq_nil_of_le h'] at hd; cases hd
    simp only at h
    split at h
    · rcases ho : one (c :: r) with _ | ⟨a, n'⟩
      · rw [ho] at h; cases h
      rw [ho] at h; exact ih h
    split at h
    · rcases ho : set r i with _ | ⟨j, a, b⟩
      · rw [ho] at h; cases h
      rw [ho] at h; exact ih h
    split at h
    · exact ih h
    split at h
    · split at h
      · simp at h; omega
      · exact ih h
    · exact ih h
theorem atom_le {l : List UInt8} {n : Nat} (h : atom l = some n) : 1 ≤ n ∧ n ≤ l.length := by
  unfold atom at h
  rcases l with _ | ⟨c, r⟩
  · cases h
  simp only at h
  split at h
  · rcases ho : one (c :: r) with _ | ⟨a, n'⟩
    · rw [ho] at h; cases h
    have h1 := one_bd ho
    have h2 := one_le ho
    rw [ho] at h; simp at h; omega
  split at h
  · rcases ho : set r 0 with _ | ⟨j, a, b⟩
    · rw [ho] at h; cases h
    have h1 := set_ge ho
    have h2 := set_le ho
    rw [ho] at h; simp at h; simp at *; omega
  split at h
  · have := groupFrom_le h
    simp at *; omega
  · simp at h; simp; omega
theorem pieceFrom_le {p : List UInt8} {f n r : Nat} (h : pieceFrom p f n = some r) : n ≤ p.length → n ≤ r ∧ r ≤ p.length := by
  induction f generalizing n with
  | zero => simp [pieceFrom] at h
  | succ f ih =>
    intro hn
    unfold pieceFrom at h
    rcases hd : p.drop n with _ | ⟨x, y⟩
    · rw [hd] at h; simp at h; omega
    rw [hd] at h
    simp only at h
    split at h
    · rcases hs : suffixed p n with _ | n'
      · rw [hs] at h; cases h
      rw [hs] at h
      have h1 := suffixed_gt hs
      have h2 := suffixed_le hs
      have := ih h h2
      omega
    · simp at h; omega
theorem piece_le {l : List UInt8} {n : Nat} (h : piece l = some n) : 1 ≤ n ∧ n ≤ l.length := by
  unfold piece at h
  rcases ha : atom l with _ | n0
  · rw [ha] at h; cases h
  rw [ha] at h
  have h1 := atom_le ha
  have := pieceFrom_le h h1.2
  omega
theorem split_le {l : List UInt8} {n : Nat} (h : split l = some n) : n ≤ l.length := by
  unfold split at h
  rcases ha : atom l with _ | n0
  · rw [ha] at h; cases h
  rw [ha] at h
  exact splitFrom_le h (atom_le ha).2
theorem most_bd {l : List UInt8} {m : Int} (h : most l = some m) : 0 ≤ m ∧ m ≤ 9 ∧ 3 ≤ l.length := by
  unfold most at h
  split at h
  · rename_i x y z r
    split at h
    · rename_i hd
      have hd' : 48 ≤ (y.toNat : Int) ∧ (y.toNat : Int) ≤ 57 := by simpa [digit] using hd
      split at h
      · split at h
        · rename_i a b
          split at h
          · rename_i hz
            have hz' : 48 ≤ (a.toNat : Int) ∧ (a.toNat : Int) ≤ 57 := by simpa [digit] using hz
            simp at h; simp; omega
          · cases h
        · cases h
      · simp at h; simp; omega
    · cases h
  · cases h
theorem pow_add_le (a b : Nat) (ha : 1 ≤ a) (hb : 1 ≤ b) : 5 ^ a * 2 ^ b + 5 ^ b * 2 ^ a ≤ 5 ^ (a + b) := by
  obtain ⟨a, rfl⟩ : ∃ a', a = a' + 1 := ⟨a - 1, by omega⟩
  obtain ⟨b, rfl⟩ : ∃ b', b = b' + 1 := ⟨b - 1, by omega⟩
  have h1 : (2 : Nat) ^ b ≤ 5 ^ b := Nat.pow_le_pow_left (by omega) b
  have h2 : (2 : Nat) ^ a ≤ 5 ^ a := Nat.pow_le_pow_left (by omega) a
  have h3 : (5 : Nat) ^ a * 2 ^ b ≤ 5 ^ a * 5 ^ b := Nat.mul_le_mul_left _ h1
  have h4 : (5 : Nat) ^ b * 2 ^ a ≤ 5 ^ b * 5 ^ a := Nat.mul_le_mul_left _ h2
  have h5 : (5 : Nat) ^ b * 5 ^ a = 5 ^ a * 5 ^ b := Nat.mul_comm _ _
  have e1 : (5 : Nat) ^ (a + 1) * 2 ^ (b + 1) = 10 * (5 ^ a * 2 ^ b) := by rw [Nat.pow_succ, Nat.pow_succ, Nat.mul_mul_mul_comm]; omega
  have e2 : (5 : Nat) ^ (b + 1) * 2 ^ (a + 1) = 10 * (5 ^ b * 2 ^ a) := by rw [Nat.pow_succ, Nat.pow_succ, Nat.mul_mul_mul_comm]; omega
  have e3 : (5 : Nat) ^ (a + 1 + (b + 1)) = 25 * (5 ^ a * 5 ^ b) := by
    rw [show a + 1 + (b + 1) = (a + b) + 2 by omega, Nat.pow_add, Nat.pow_add]; omega
  omega
theorem cnt_bd {f : Nat} : ∀ {t : Bool} {l : List UInt8} {v : Int}, cnt f t l = some v → 0 ≤ v ∧ v.toNat * 2 ^ l.length ≤ 5 ^ l.length ∧ (l = [] → v = 0) := by
  induction f with
  | zero => intro t l v h; simp [cnt] at h
  | succ f ih =>
    intro t l v h
    cases t
    · -- a piece
      unfold cnt at h
      rcases hs : split l with _ | cut
      · rw [hs] at h; cases h
      have hle := split_le hs
      rw [hs] at h
      simp only at h
      rcases hd : l.drop cut with _ | ⟨u, us⟩
      · rw [hd] at h
        rcases l with _ | ⟨c, r⟩
        · simp at h
        simp only at h
        split at h
        · split at h
          · cases h
          obtain ⟨h1, h2, _⟩ := ih h
          refine ⟨h1, ?_, by simp⟩
          have hl : (r.take (r.length - 1)).length = r.length - 1 := by simp
          rw [hl] at h2
          have p1 : (2 : Nat) ^ (c :: r).length ≤ 4 * 2 ^ (r.length - 1) := by
            rw [show 4 = 2 ^ 2 from rfl, ← Nat.pow_add]; exact Nat.pow_le_pow_right (by omega) (by simp; omega)
          have p2 : (5 : Nat) * 5 ^ (r.length - 1) ≤ 5 ^ (c :: r).length := by
            rw [Nat.mul_comm, ← Nat.pow_succ]; exact Nat.pow_le_pow_right (by omega) (by simp)
          calc v.toNat * 2 ^ (c :: r).length ≤ v.toNat * (4 * 2 ^ (r.length - 1)) := Nat.mul_le_mul_left _ p1
            _ = 4 * (v.toNat * 2 ^ (r.length - 1)) := by rw [Nat.mul_left_comm]
            _ ≤ 5 ^ (c :: r).length := by omega
        · simp only [Option.some.injEq] at h
          subst h
          refine ⟨by omega, ?_, by simp⟩
          have : (2 : Nat) ^ (c :: r).length ≤ 5 ^ (c :: r).length := Nat.pow_le_pow_left (by omega) _
          simpa using this
      · rw [hd] at h
        simp only at h
        rcases hx : cnt f false (l.take cut) with _ | n
        · rw [hx] at h; cases h
        obtain ⟨h1, h2, _⟩ := ih hx
        rw [hx] at h
        simp only at h
        have hlen : (l.take cut).length = cut := by simp; omega
        have hdl : (u :: us).length = l.length - cut := by rw [← hd]; simp
        have hne : l ≠ [] := by intro e; rw [e] at hd; simp at hd
        rw [hlen] at h2
        split at h
        · rcases hm : most (u :: us) with _ | m
          · rw [hm] at h; cases h
          obtain ⟨m0, m1, m2⟩ := most_bd hm
          rw [hm] at h
          simp only [Option.map_some, Option.some.injEq] at h
          subst h
          refine ⟨Int.mul_nonneg h1 m0, ?_, fun e => absurd e hne⟩
          obtain ⟨d, hd3⟩ : ∃ d, l.length = cut + (d + 3) := ⟨l.length - cut - 3, by omega⟩
          have e1 : (n * m).toNat = n.toNat * m.toNat := Int.toNat_mul h1 m0
          rw [e1, hd3, Nat.pow_add 2 cut, Nat.pow_add 5 cut]
          have q1 : m.toNat * 2 ^ (d + 3) ≤ 5 ^ (d + 3) := by
            have hm9 : m.toNat ≤ 9 := by omega
            have : (2 : Nat) ^ d ≤ 5 ^ d := Nat.pow_le_pow_left (by omega) d
            calc m.toNat * 2 ^ (d + 3) ≤ 9 * 2 ^ (d + 3) := Nat.mul_le_mul_right _ hm9
              _ ≤ 5 ^ (d + 3) := by rw [Nat.pow_add, Nat.pow_add]; omega
          calc n.toNat * m.toNat * (2 ^ cut * 2 ^ (d + 3)) = (n.toNat * 2 ^ cut) * (m.toNat * 2 ^ (d + 3)) := by rw [Nat.mul_mul_mul_comm]
            _ ≤ 5 ^ cut * 5 ^ (d + 3) := Nat.mul_le_mul h2 q1
        · simp only [Option.some.injEq] at h
          subst h
          refine ⟨h1, ?_, fun e => absurd e hne⟩
          obtain ⟨d, hd3⟩ : ∃ d, l.length = cut + d := ⟨l.length - cut, by omega⟩
          rw [hd3, Nat.pow_add, Nat.pow_add, ← Nat.mul_assoc]
          exact Nat.mul_le_mul h2 (Nat.pow_le_pow_left (by omega) d)
    · -- a pattern
      unfold cnt at h
      rcases l with _ | ⟨c, r⟩
      · simp only [Option.some.injEq] at h; subst h; exact ⟨by omega, by simp, fun _ => rfl⟩
      simp only at h
      split at h
      · obtain ⟨h1, h2, _⟩ := ih h
        refine ⟨h1, ?_, by simp⟩
        rw [List.length_cons, Nat.pow_succ, Nat.pow_succ, ← Nat.mul_assoc]; omega
      · rcases hp : piece (c :: r) with _ | k
        · rw [hp] at h; cases h
        obtain ⟨k1, k2⟩ := piece_le hp
        rw [hp] at h
        simp only at h
        rcases ha : cnt f false ((c :: r).take k) with _ | a
        · rw [ha] at h; simp at h
        rcases hb : cnt f true ((c :: r).drop k) with _ | b
        · rw [ha, hb] at h; simp at h
        rw [ha, hb] at h
        simp only [Option.some.injEq] at h
        subst h
        obtain ⟨a1, a2, _⟩ := ih ha
        obtain ⟨b1, b2, b3⟩ := ih hb
        refine ⟨by omega, ?_, by simp⟩
        have la : ((c :: r).take k).length = k := by simp at *; omega
        rw [la] at a2
        obtain ⟨d, hd⟩ : ∃ d, (c :: r).length = k + d := ⟨(c :: r).length - k, by omega⟩
        have lb : ((c :: r).drop k).length = d := by simp only [List.length_drop]; omega
        rw [lb] at b2
        rw [hd]
        have e1 : (a + b).toNat = a.toNat + b.toNat := by omega
        rw [e1, Nat.add_mul, Nat.pow_add 2 k d]
        rcases Nat.eq_zero_or_pos d with hz | hpos
        · have hb0 : b = 0 := b3 (List.eq_nil_of_length_eq_zero (by omega))
          subst hz; subst hb0
          simpa using a2
        · have := pow_add_le k d k1 hpos
          have t1 : a.toNat * (2 ^ k * 2 ^ d) ≤ 5 ^ k * 2 ^ d := by rw [← Nat.mul_assoc]; exact Nat.mul_le_mul_right _ a2
          have t2 : b.toNat * (2 ^ k * 2 ^ d) ≤ 5 ^ d * 2 ^ k := by rw [Nat.mul_comm (2 ^ k), ← Nat.mul_assoc]; exact Nat.mul_le_mul_right _ b2
          omega
theorem cnt_small {f : Nat} {t : Bool} {l : List UInt8} {v : Int} (h : cnt f t l = some v) (hl : l.length ≤ 40) : 0 ≤ v ∧ v ≤ 9094947017729282 := by
  obtain ⟨h1, h2, _⟩ := cnt_bd h
  refine ⟨h1, ?_⟩
  obtain ⟨d, hd⟩ : ∃ d, 40 = l.length + d := ⟨40 - l.length, by omega⟩
  have h3 : v.toNat * 2 ^ 40 ≤ 5 ^ 40 := by
    rw [hd, Nat.pow_add, Nat.pow_add, ← Nat.mul_assoc]
    exact Nat.mul_le_mul h2 (Nat.pow_le_pow_left (by omega) d)
  have h4 : v.toNat * 1099511627776 ≤ 9094947017729282379150390625 := h3
  omega
/-- What is wrong with one pattern, by the reference: the error and the place. -/
def WrongIs (l : List UInt8) (e a : Int) : Prop :=
  (40 < l.length ∧ e = 2 ∧ a = 0) ∨ (l.length ≤ 40 ∧
    ((0 ≤ form l ∧ e = 3 ∧ a = form l) ∨ (form l < 0 ∧
      ((0 ≤ deep l ∧ e = 4 ∧ a = deep l) ∨ (deep l < 0 ∧ ∃ f v, valueFrom l f 0 = some v ∧
        ((0 ≤ v ∧ e = 5 ∧ a = v) ∨ (v < 0 ∧ ∃ g u, emptyFrom l g 0 = some u ∧ ((0 ≤ u ∧ e = 6 ∧ a = u) ∨ (u < 0 ∧ e = 0 ∧ a = 0)))))))))
end Rf
end Go.Proofs.Ytoaaklhpmhjhkaa
