/-
  Plain mathematics: the twins of the reference's and the program's functions, over lists of bytes. Imports nothing of the dump.
-/
import Derived.WalkKit
namespace Go.Proofs.Ytoaaklhpmhjhkaa
theorem get_getD (s : ByteArray) (k : Nat) (h : k < s.size) : s[k] = s.data.toList.getD k 0 := by
  have h' : k < s.data.toList.length := by simpa using h
  rw [List.getD_eq_getElem?_getD, List.getElem?_eq_getElem h']; rfl
theorem drop_cons (s : ByteArray) (k : Nat) (h : k < s.size) : s.data.toList.drop k = s[k] :: s.data.toList.drop (k + 1) := by
  rw [List.drop_eq_getElem_cons (by simpa using h)]; rfl
theorem ret_int {k : IntKind} {a b : Int} (h : a = b) : Ending.returned (.int k a) = .returned (.int k b) := by rw [h]
theorem ret_bool {a b : Bool} (h : a = b) : Ending.returned (.bool a) = .returned (.bool b) := by rw [h]

namespace Rf
def digit (c : Int) : Bool := decide (48 ≤ c) && decide (c ≤ 57)
def hex (c : Int) : Bool := digit c || (decide (97 ≤ c) && decide (c ≤ 102))
def has : List UInt8 → Int → Bool
  | [], _ => false
  | x :: r, c => ((x.toNat : Int) == c) || has r c
def number (c : Int) : Int := if digit c then c - 48 else c - 97 + 10
theorem number_lt (c : Int) (h : hex c = true) : 0 ≤ number c ∧ number c < 16 := by
  unfold number
  cases hd : digit c
  · have : 97 ≤ c ∧ c ≤ 102 := by simpa [hex, hd] using h
    simp; omega
  · have : 48 ≤ c ∧ c ≤ 57 := by simpa [digit] using hd
    simp; omega

/-- What the reader is behind a byte: whether the byte may stand there; its three numbers. -/
structure RS where
  ok : Bool
  m : Int
  bk : Int
  o : Int
def marks : List UInt8 := [92, 46, 91, 93, 40, 41, 123, 125, 124, 42, 43, 63, 94, 45]
def notInner : List UInt8 := [91, 93, 94, 45]
def to (m bk o : Int) (ok : Bool) (m' : Int) : RS := ⟨ok, if ok then m' else m, bk, o⟩
def inner (m bk o c m' : Int) : RS := if c = 92 then ⟨true, 2, m', o⟩ else to m bk o (!has notInner c) m'
def outside (m bk o c : Int) : RS :=
  if c = 92 then ⟨true, 2, 1, o⟩
  else if c = 91 then ⟨true, 9, bk, o⟩
  else if c = 40 then ⟨true, 0, bk, o + 1⟩
  else if c = 41 then to m bk (o - 1) (decide (1 ≤ o)) 1
  else if c = 124 then ⟨true, 0, bk, o⟩
  else if c = 42 ∨ c = 43 ∨ c = 63 then ⟨m == 1, m, bk, o⟩
  else if c = 123 then to m bk o (m == 1) 5
  else if c = 93 ∨ c = 125 then ⟨false, m, bk, o⟩
  else ⟨true, 1, bk, o⟩
def rest (m bk o c : Int) : RS :=
  if m = 9 then (if c = 94 then ⟨true, 10, bk, o⟩ else inner m bk o c 11)
  else if m = 10 then inner m bk o c 11
  else if m = 11 then (if c = 45 then ⟨true, 12, bk, o⟩ else if c = 93 then ⟨true, 1, bk, o⟩ else inner m bk o c 11)
  else if m = 12 then inner m bk o c 13
  else if m = 13 then (if c = 93 then ⟨true, 1, bk, o⟩ else inner m bk o c 11)
  else outside m bk o c
def read (m bk o c : Int) : RS :=
  if m = 2 then (if c = 120 then ⟨true, 3, bk, o⟩ else to m bk o (c == 110 || c == 116 || has marks c) bk)
  else if m = 3 then to m bk o (hex c) 4
  else if m = 4 then to m bk o (hex c) bk
  else if m = 5 then to m bk o (digit c) 6
  else if m = 6 then (if c = 44 then ⟨true, 7, bk, o⟩ else to m bk o (c == 125) 1)
  else if m = 7 then to m bk o (digit c) 8
  else if m = 8 then to m bk o (c == 125) 1
  else rest m bk o c
/-- 'form' from the reader's state on, at the place i. -/
def formFrom (m bk o : Int) (i : Nat) : List UInt8 → Int
  | [] => if 0 < o ∨ 1 < m then i else -1
  | c :: r => let x := read m bk o c.toNat; if x.ok then formFrom x.m x.bk x.o (i + 1) r else i
def form (l : List UInt8) : Int := formFrom 0 0 0 0 l
def deepFrom (m bk o : Int) (i : Nat) : List UInt8 → Int
  | [] => -1
  | c :: r => let x := read m bk o c.toNat; if 6 < x.o then i else deepFrom x.m x.bk x.o (i + 1) r
def deep (l : List UInt8) : Int := deepFrom 0 0 0 0 l
end Rf
end Go.Proofs.Ytoaaklhpmhjhkaa
