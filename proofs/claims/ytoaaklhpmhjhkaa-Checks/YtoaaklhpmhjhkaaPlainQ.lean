/-
  Plain mathematics: the twins of the program's readParts and of what looks over the parts.
-/
import Derived.Test.YtoaaklhpmhjhkaaPlainP
import Derived.Test.YtoaaklhpmhjhkaaPlainB
namespace Go.Proofs.Ytoaaklhpmhjhkaa
open Go.RowKit
namespace Pg
def readCount (g : Int → Int) (i : Int) : R := if digitValue (g (i + 1)) < 0 then ⟨0, i + 1, false⟩ else readMost g (i + 2) (digitValue (g (i + 1)))
def countFalls (g : Int → Int) (i : Int) : Int := if (readCount g i).v < digitValue (g (i + 1)) then i else -1
def readPlace (g : Int → Int) (len i : Int) : S :=
  if g i = 91 then readSet g len i
  else if g i = 46 then ⟨i + 1, true, fun k => !(withF (fun _ => false) 10 10 k), -1⟩
  else if g i = 92 then ⟨(readEscape g i).n, (readEscape g i).ok, withF (fun _ => false) (readEscape g i).v (readEscape g i).v, -1⟩
  else ⟨i + 1, true, withF (fun _ => false) (g i) (g i), -1⟩
/-- A part: the place behind it, whether it went, the bytes, the greater count, the first that falls. -/
structure T where
  n : Int
  ok : Bool
  f : Nat → Bool
  mo : Int
  fa : Int
def readPart (g : Int → Int) (len i kind : Int) : T :=
  if kind = 1 then ⟨(readPlace g len i).n, (readPlace g len i).ok, (readPlace g len i).f, 0, (readPlace g len i).fa⟩
  else if kind = 8 then ⟨(readCount g i).n, (readCount g i).ok, fun _ => false, (readCount g i).v, countFalls g i⟩
  else ⟨i + 1, true, fun _ => false, 0, -1⟩
/-- A part that was read. -/
structure Pt where
  kd : Int
  pl : Int
  f : Nat → Bool
  le : Int
  mo : Int
  fa : Int
def Pt.strip (p : Pt) : Pt := { p with le := 0 }
/-- Parts that were read: the place, whether it went, the parts. -/
structure PR where
  n : Int
  ok : Bool
  ps : List Pt
def opens (kd op : Int) : Int := if kd = 2 then op + 1 else if kd = 3 then op - 1 else op
theorem opens_opn (kd op : Int) : opens kd op = op + opn kd := by
  unfold opens opn; repeat' split
  all_goals omega
def partsFrom (g : Int → Int) (len : Int) : Nat → Int → Int → Int → List Pt → PR
  | 0, _, _, i, _ => ⟨i, false, []⟩
  | u + 1, before, op, i, acc =>
    if i < len then
      (if canStand (kindOf (g i)) before op then
        (if (readPart g len i (kindOf (g i))).ok then partsFrom g len u (kindOf (g i)) (opens (kindOf (g i)) op) (readPart g len i (kindOf (g i))).n (acc ++ [⟨kindOf (g i), i, (readPart g len i (kindOf (g i))).f, 0, (readPart g len i (kindOf (g i))).mo, (readPart g len i (kindOf (g i))).fa⟩])
        else ⟨(readPart g len i (kindOf (g i))).n, false, []⟩)
      else ⟨i, false, []⟩)
    else ⟨i, op == 0, acc⟩
def readParts (g : Int → Int) (len : Int) : PR := partsFrom g len (len.toNat + 1) 0 0 0 []
theorem setLoop_bd (g : Int → Int) (len first : Int) (hg : ∀ j, -1 ≤ g j ∧ g j < 256) : ∀ (u : Nat) (e fa : Int) (f : Nat → Bool), (setLoop g len first u e fa f).ok = true → e < (setLoop g len first u e fa f).n ∧ (setLoop g len first u e fa f).n ≤ len := by
  intro u
  induction u with
  | zero => intro e fa f h; simp [setLoop] at h
  | succ u ih =>
    intro e fa f h
    have hi := readItem_bd g e hg
    unfold setLoop at h ⊢
    split
    · rename_i hlt
      rw [if_pos hlt] at h
      split
      · simp; omega
      · rename_i hc
        rw [if_neg hc] at h
        split
        · rename_i hok
          rw [if_pos hok] at h
          have := ih _ _ _ h
          have := hi.2.2 hok
          omega
        · rename_i hok; rw [if_neg hok] at h; simp at h
    · rename_i hlt; rw [if_neg hlt] at h; simp at h
theorem readSet_bd (g : Int → Int) (len i : Int) (hg : ∀ j, -1 ≤ g j ∧ g j < 256) (h : (readSet g len i).ok = true) : i < (readSet g len i).n ∧ (readSet g len i).n ≤ len := by
  unfold readSet at h ⊢
  split
  · rename_i hc
    rw [if_pos hc] at h
    have := setLoop_bd g len (i + 2) hg _ _ _ _ h
    simp only; omega
  · rename_i hc
    rw [if_neg hc] at h
    have := setLoop_bd g len (i + 1) hg _ _ _ _ h
    omega
theorem readPart_bd (g : Int → Int) (len i kd : Int) (hg : ∀ j, -1 ≤ g j ∧ g j < 256) (hl : len ≤ 40) (h : (readPart g len i kd).ok = true) : i < (readPart g len i kd).n ∧ (readPart g len i kd).n ≤ i + 5 + 40 ∨ (readPart g len i kd).n ≤ 40 ∧ i < (readPart g len i kd).n := by
  have he := readEscape_bd g i hg
  unfold readPart at h ⊢
  split
  · rename_i hc
    rw [if_pos hc] at h
    simp only at h ⊢
    unfold readPlace at h ⊢
    split
    · rename_i h1; rw [if_pos h1] at h; have := readSet_bd g len i hg h; omega
    · rename_i h1; rw [if_neg h1] at h
      split
      · simp; omega
      · split
        · simp; omega
        · simp; omega
  · split
    · simp only
      have hd := digitValue_bd (g (i + 1))
      unfold readCount readMost
      repeat' split
      all_goals (simp; omega)
    · simp; omega
/-! What looks over the parts. -/
def tooDeep : List Pt → Int → Int
  | [], _ => -1
  | p :: r, op => if 6 < opens p.kd op then p.pl else tooDeep r (opens p.kd op)
def falling : List Pt → Int
  | [] => -1
  | p :: r => if p.fa = -1 then falling r else p.fa
def matchless : List Pt → Int
  | [] => -1
  | p :: r => if p.kd = 1 ∧ Rf.cntTo p.f 256 = 0 then p.pl else matchless r
/-- The state of a count: the places ahead of the last piece, those of the last piece, those ahead of each open parenthesis (the last one first). -/
structure C where
  ah : Int
  la : Int
  st : List Int
def cStep (c : C) (p : Pt) : C :=
  if p.kd = 1 then ⟨capped (c.ah + c.la), 1, c.st⟩
  else if p.kd = 2 then ⟨0, 0, capped (c.ah + c.la) :: c.st⟩
  else if p.kd = 3 then
    (match c.st with
    | [] => ⟨0, capped (c.ah + c.la), []⟩
    | x :: r => ⟨x, capped (c.ah + c.la), r⟩)
  else if p.kd = 4 then ⟨capped (c.ah + c.la), 0, c.st⟩
  else if p.kd = 8 then ⟨c.ah, capped (c.la * p.mo), c.st⟩
  else c
def cRun : List Pt → C → C
  | [], c => c
  | p :: r, c => cRun r (cStep c p)
def countPlaces (ps : List Pt) : Int := capped ((cRun ps ⟨0, 0, []⟩).ah + (cRun ps ⟨0, 0, []⟩).la)
theorem tooDeep_strip (ps : List Pt) : ∀ op, tooDeep (ps.map Pt.strip) op = tooDeep ps op := by
  induction ps with
  | nil => intro op; rfl
  | cons p r ih => intro op; simp only [List.map_cons, tooDeep, Pt.strip]; rw [ih]
theorem falling_strip (ps : List Pt) : falling (ps.map Pt.strip) = falling ps := by
  induction ps with
  | nil => rfl
  | cons p r ih => simp only [List.map_cons, falling, Pt.strip]; rw [ih]
theorem matchless_strip (ps : List Pt) : matchless (ps.map Pt.strip) = matchless ps := by
  induction ps with
  | nil => rfl
  | cons p r ih => simp only [List.map_cons, matchless, Pt.strip]; rw [ih]
theorem cRun_strip (ps : List Pt) : ∀ c, cRun (ps.map Pt.strip) c = cRun ps c := by
  induction ps with
  | nil => intro c; rfl
  | cons p r ih => intro c; simp only [List.map_cons, cRun]; rw [ih]; rfl
theorem countPlaces_strip (ps : List Pt) : countPlaces (ps.map Pt.strip) = countPlaces ps := by unfold countPlaces; rw [cRun_strip]
/-- What is wrong with one pattern, by the program: the error and the place. -/
def wrong (g : Int → Int) (len : Int) : Int × Int :=
  if 40 < len then (2, 0)
  else if (readParts g len).ok then
    (if tooDeep (readParts g len).ps 0 = -1 then
      (if falling (readParts g len).ps = -1 then
        (if matchless (readParts g len).ps = -1 then (0, 0) else (6, matchless (readParts g len).ps))
      else (5, falling (readParts g len).ps))
    else (4, tooDeep (readParts g len).ps 0))
  else (3, (readParts g len).n)
theorem readMost_bd (g : Int → Int) (i l : Int) (h0 : 0 ≤ l) (h9 : l ≤ 9) : 0 ≤ (readMost g i l).v ∧ (readMost g i l).v ≤ 9 := by
  have := digitValue_bd (g (i + 1))
  unfold readMost
  repeat' split
  all_goals (simp; try omega)
theorem readPart_mo (g : Int → Int) (len i kd : Int) : 0 ≤ (readPart g len i kd).mo ∧ (readPart g len i kd).mo ≤ 9 := by
  unfold readPart
  split
  · simp
  split
  · simp only
    unfold readCount
    have := digitValue_bd (g (i + 1))
    split
    · simp
    · exact readMost_bd _ _ _ (by omega) (by omega)
  · simp
theorem partsFrom_mo (g : Int → Int) (len : Int) : ∀ (u : Nat) (b op i : Int) (acc : List Pt), (∀ p ∈ acc, 0 ≤ p.mo ∧ p.mo ≤ 9) → ∀ p ∈ (partsFrom g len u b op i acc).ps, 0 ≤ p.mo ∧ p.mo ≤ 9 := by
  intro u
  induction u with
  | zero => intro b op i acc _ p hp; simp [partsFrom] at hp
  | succ u ih =>
    intro b op i acc hacc p hp
    unfold partsFrom at hp
    split at hp
    · split at hp
      · split at hp
        · refine ih _ _ _ _ ?_ p hp
          intro q hq
          rcases List.mem_append.1 hq with h | h
          · exact hacc q h
          · simp only [List.mem_singleton] at h; subst h; exact readPart_mo _ _ _ _
        · simp at hp
      · simp at hp
    · exact hacc p hp
theorem readParts_mo (g : Int → Int) (len : Int) : ∀ p ∈ (readParts g len).ps, 0 ≤ p.mo ∧ p.mo ≤ 9 := partsFrom_mo g len _ _ _ _ _ (by simp)
theorem capped_le (n : Int) (h : 0 ≤ n) : 0 ≤ capped n ∧ capped n ≤ 97 := by unfold capped; split <;> omega
end Pg
end Go.Proofs.Ytoaaklhpmhjhkaa
