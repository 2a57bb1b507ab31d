/-
  Plain mathematics: the twins of the program's functions (package pattern). g tells the byte at a place, -1 beyond the end.
-/
import Derived.Test.YtoaaklhpmhjhkaaPlain
namespace Go.Proofs.Ytoaaklhpmhjhkaa
open Go.RowKit
def bat (s : ByteArray) (i : Int) : Int := if 0 ≤ i ∧ i < s.size then ((s.data.toList.getD i.toNat 0).toNat : Int) else -1
theorem bat_neg {s : ByteArray} {i : Int} (h : ¬ (0 ≤ i ∧ i < s.size)) : bat s i = -1 := by unfold bat; rw [if_neg h]
theorem bat_pos {s : ByteArray} {i : Int} (h : i.toNat < s.size) (h0 : 0 ≤ i) : bat s i = (s[i.toNat].toNat : Int) := by
  unfold bat; rw [if_pos ⟨h0, by omega⟩, get_getD s _ h]
theorem bat_bd (s : ByteArray) (i : Int) : -1 ≤ bat s i ∧ bat s i < 256 := by
  unfold bat
  split
  · have := (s.data.toList.getD i.toNat 0).toNat_lt; omega
  · omega
namespace Pg
/-- The value of a read, the place behind it (or where it fell), whether it went. -/
structure R where
  v : Int
  n : Int
  ok : Bool
def isMark (b : Int) : Bool := b == 92 || b == 46 || b == 91 || b == 93 || b == 40 || b == 41 || b == 123 || b == 125 || b == 124 || b == 42 || b == 43 || b == 63 || b == 94 || b == 45
def isInner (b : Int) : Bool := !(b == -1 || b == 92 || b == 91 || b == 93 || b == 94 || b == 45)
def digitValue (b : Int) : Int := if 48 ≤ b ∧ b ≤ 57 then b - 48 else -1
def hexValue (b : Int) : Int := if 97 ≤ b ∧ b ≤ 102 then b - 97 + 10 else digitValue b
def kindOf (b : Int) : Int :=
  if b = -1 ∨ b = 93 ∨ b = 125 then 0 else if b = 40 then 2 else if b = 41 then 3 else if b = 124 then 4
  else if b = 42 then 5 else if b = 43 then 6 else if b = 63 then 7 else if b = 123 then 8 else 1
def isSuffix (k : Int) : Bool := k == 5 || k == 6 || k == 7 || k == 8
/-- By how many more parentheses are open behind a part. -/
def opn (kd : Int) : Int := if kd = 2 then 1 else if kd = 3 then -1 else 0
theorem opn_bd (kd : Int) : -1 ≤ opn kd ∧ opn kd ≤ 1 := by
  unfold opn
  repeat' split
  all_goals omega
def endsPiece (k : Int) : Bool := k == 1 || k == 3 || isSuffix k
def canStand (k before op : Int) : Bool := if k = 0 then false else if k = 3 then decide (0 < op) else if isSuffix k then endsPiece before else true
def capped (n : Int) : Int := if 96 < n then 97 else n
def readHex (g : Int → Int) (i : Int) : R :=
  if hexValue (g i) < 0 then ⟨0, i, false⟩
  else if hexValue (g (i + 1)) < 0 then ⟨0, i + 1, false⟩
  else ⟨hexValue (g i) * 16 + hexValue (g (i + 1)), i + 2, true⟩
def readEscape (g : Int → Int) (i : Int) : R :=
  if g (i + 1) = 110 then ⟨10, i + 2, true⟩ else if g (i + 1) = 116 then ⟨9, i + 2, true⟩
  else if g (i + 1) = 120 then readHex g (i + 2)
  else if isMark (g (i + 1)) then ⟨g (i + 1), i + 2, true⟩ else ⟨0, i + 1, false⟩
def readOne (g : Int → Int) (i : Int) : R :=
  if g i = 92 then readEscape g i else if isInner (g i) then ⟨g i, i + 1, true⟩ else ⟨0, i, false⟩
/-- An item: its lower end, its upper end, the place behind it, whether it went. -/
structure I where
  lo : Int
  hi : Int
  n : Int
  ok : Bool
def readItem (g : Int → Int) (i : Int) : I :=
  if (readOne g i).ok then
    (if g (readOne g i).n = 45 then ⟨(readOne g i).v, (readOne g ((readOne g i).n + 1)).v, (readOne g ((readOne g i).n + 1)).n, (readOne g ((readOne g i).n + 1)).ok⟩
    else ⟨(readOne g i).v, (readOne g i).v, (readOne g i).n, true⟩)
  else ⟨0, 0, (readOne g i).n, false⟩
def readMost (g : Int → Int) (i least : Int) : R :=
  if g i = 125 then ⟨least, i + 1, true⟩
  else if g i = 44 then
    (if digitValue (g (i + 1)) < 0 then ⟨0, i + 1, false⟩
    else if g (i + 2) = 125 then ⟨digitValue (g (i + 1)), i + 3, true⟩ else ⟨0, i + 2, false⟩)
  else ⟨0, i, false⟩
theorem hexValue_bd (b : Int) : -1 ≤ hexValue b ∧ hexValue b < 16 := by
  unfold hexValue digitValue; split
  · omega
  · split <;> omega
theorem digitValue_bd (b : Int) : -1 ≤ digitValue b ∧ digitValue b < 10 := by
  unfold digitValue; split <;> omega
theorem readHex_bd (g : Int → Int) (i : Int) : 0 ≤ (readHex g i).v ∧ (readHex g i).v < 256 ∧ i ≤ (readHex g i).n ∧ (readHex g i).n ≤ i + 2 := by
  have h1 := hexValue_bd (g i)
  have h2 := hexValue_bd (g (i + 1))
  unfold readHex
  split
  · simp; omega
  · split
    · simp; omega
    · simp; omega
theorem readEscape_bd (g : Int → Int) (i : Int) (hg : ∀ j, -1 ≤ g j ∧ g j < 256) : 0 ≤ (readEscape g i).v ∧ (readEscape g i).v < 256 ∧ i < (readEscape g i).n ∧ (readEscape g i).n ≤ i + 4 := by
  have h := hg (i + 1)
  have h2 := readHex_bd g (i + 2)
  unfold readEscape
  split
  · simp; omega
  split
  · simp; omega
  split
  · omega
  split
  · rename_i hm
    have : 0 ≤ g (i + 1) := by
      simp only [isMark, Bool.or_eq_true, beq_iff_eq] at hm; omega
    simp; omega
  · simp; omega
theorem readOne_bd (g : Int → Int) (i : Int) (hg : ∀ j, -1 ≤ g j ∧ g j < 256) : 0 ≤ (readOne g i).v ∧ (readOne g i).v < 256 ∧ i ≤ (readOne g i).n ∧ (readOne g i).n ≤ i + 4 ∧ ((readOne g i).ok = true → i < (readOne g i).n) := by
  have h := hg i
  have h2 := readEscape_bd g i hg
  unfold readOne
  split
  · omega
  split
  · rename_i hm
    have : g i ≠ -1 := by
      intro e; rw [e] at hm; simp [isInner] at hm
    simp; omega
  · simp; omega
theorem readItem_bd (g : Int → Int) (i : Int) (hg : ∀ j, -1 ≤ g j ∧ g j < 256) : i ≤ (readItem g i).n ∧ (readItem g i).n ≤ i + 9 ∧ ((readItem g i).ok = true → i < (readItem g i).n ∧ 0 ≤ (readItem g i).lo ∧ (readItem g i).lo < 256 ∧ 0 ≤ (readItem g i).hi ∧ (readItem g i).hi < 256) := by
  have h := readOne_bd g i hg
  have h2 := readOne_bd g ((readOne g i).n + 1) hg
  unfold readItem
  split
  · rename_i hok
    have h3 := h.2.2.2.2 hok
    split
    · simp; omega
    · simp; omega
  · simp; omega
/-- A set that was read: the place behind it, whether it went, the bytes, the first item that falls. -/
structure S where
  n : Int
  ok : Bool
  f : Nat → Bool
  fa : Int
def withF (f : Nat → Bool) (a b : Int) : Nat → Bool := fun k => f k || (decide (a ≤ (k : Int)) && decide ((k : Int) ≤ b))
def setLoop (g : Int → Int) (len first : Int) : Nat → Int → Int → (Nat → Bool) → S
  | 0, e, fa, f => ⟨e, false, f, fa⟩
  | u + 1, e, fa, f =>
    if e < len then
      (if g e = 93 ∧ first < e then ⟨e + 1, true, f, fa⟩
      else if (readItem g e).ok then setLoop g len first u (readItem g e).n (if (readItem g e).hi < (readItem g e).lo ∧ fa = -1 then e else fa) (withF f (readItem g e).lo (readItem g e).hi)
      else ⟨(readItem g e).n, false, f, fa⟩)
    else ⟨len, false, f, fa⟩
def readSet (g : Int → Int) (len i : Int) : S :=
  if g (i + 1) = 94 then (let r := setLoop g len (i + 2) (len.toNat + 1) (i + 2) (-1) (fun _ => false); ⟨r.n, r.ok, fun k => !r.f k, r.fa⟩)
  else setLoop g len (i + 1) (len.toNat + 1) (i + 1) (-1) (fun _ => false)
end Pg
end Go.Proofs.Ytoaaklhpmhjhkaa
