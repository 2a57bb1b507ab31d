/-
  Plain mathematics: the program's readers of one byte against the reference's reader.
-/
import Derived.Test.YtoaaklhpmhjhkaaPlainC
import Derived.Test.YtoaaklhpmhjhkaaPlainQ
namespace Go.Proofs.Ytoaaklhpmhjhkaa
open Go.RowKit

/-- The byte at a place of a list, -1 beyond its end. -/
def at_ (t : List UInt8) (j : Nat) : Int := match t[j]? with | some c => (c.toNat : Int) | none => -1
theorem bat_suffix (s : ByteArray) (k j : Nat) : bat s ((k : Int) + (j : Int)) = at_ (s.data.toList.drop k) j := by
  unfold at_ bat
  rw [List.getElem?_drop]
  by_cases h : k + j < s.size
  · rw [if_pos ⟨by omega, by omega⟩, show ((k : Int) + (j : Int)).toNat = k + j by omega, List.getElem?_eq_getElem (by simpa using h), List.getD_eq_getElem?_getD, List.getElem?_eq_getElem (by simpa using h)]
    rfl
  · rw [if_neg (by omega), List.getElem?_eq_none (by simp; omega)]
theorem bat_0 {s : ByteArray} {k : Nat} {t : List UInt8} (h : s.data.toList.drop k = t) : bat s (k : Int) = at_ t 0 := by
  have := bat_suffix s k 0; rw [h] at this; simpa using this
theorem bat_1 {s : ByteArray} {k : Nat} {t : List UInt8} (h : s.data.toList.drop k = t) : bat s ((k : Int) + 1) = at_ t 1 := by
  have := bat_suffix s k 1; rw [h] at this; simpa using this
theorem bat_2 {s : ByteArray} {k : Nat} {t : List UInt8} (h : s.data.toList.drop k = t) : bat s ((k : Int) + 2) = at_ t 2 := by
  have := bat_suffix s k 2; rw [h] at this; simpa using this
theorem bat_3 {s : ByteArray} {k : Nat} {t : List UInt8} (h : s.data.toList.drop k = t) : bat s ((k : Int) + 3) = at_ t 3 := by
  have := bat_suffix s k 3; rw [h] at this; simpa using this
theorem bat_4 {s : ByteArray} {k : Nat} {t : List UInt8} (h : s.data.toList.drop k = t) : bat s ((k : Int) + 4) = at_ t 4 := by
  have := bat_suffix s k 4; rw [h] at this; simpa using this

theorem hex_iff (c : Int) : Rf.hex c = decide (0 ≤ Pg.hexValue c) := by
  unfold Rf.hex Rf.digit Pg.hexValue Pg.digitValue
  rw [Bool.eq_iff_iff]
  simp only [Bool.or_eq_true, Bool.and_eq_true, decide_eq_true_eq]
  split
  · constructor <;> intro <;> omega
  · split
    · constructor <;> intro <;> omega
    · constructor <;> intro <;> omega
theorem digit_iff (c : Int) : Rf.digit c = decide (0 ≤ Pg.digitValue c) := by
  unfold Rf.digit Pg.digitValue
  rw [Bool.eq_iff_iff]
  simp only [Bool.and_eq_true, decide_eq_true_eq]
  split <;> (constructor <;> intro <;> omega)
theorem number_eq (c : Int) (h : Rf.hex c = true) : Rf.number c = Pg.hexValue c := by
  unfold Rf.hex Rf.digit at h
  simp only [Bool.or_eq_true, Bool.and_eq_true, decide_eq_true_eq] at h
  unfold Rf.number Rf.digit Pg.hexValue Pg.digitValue
  by_cases h1 : 97 ≤ c ∧ c ≤ 102
  · rw [if_pos h1, if_neg (by simp; omega)]
  · rw [if_neg h1, if_pos (by simp; omega), if_pos (by omega)]
theorem marks_iff (c : Int) : Rf.has Rf.marks c = Pg.isMark c := by
  simp only [Rf.marks, Rf.has, Pg.isMark, Bool.or_false]
  rw [Bool.eq_iff_iff]
  simp only [Bool.or_eq_true, beq_iff_eq]
  constructor <;> intro h <;> (simp at h ⊢; omega)
theorem notInner_iff (c : Int) (h0 : 0 ≤ c) (h92 : c ≠ 92) : (!Rf.has Rf.notInner c) = Pg.isInner c := by
  simp only [Rf.notInner, Rf.has, Pg.isInner, Bool.or_false]
  congr 1
  rw [Bool.eq_iff_iff]
  simp only [Bool.or_eq_true, beq_iff_eq]
  constructor <;> intro h <;> (simp at h ⊢; omega)

theorem ff_nil (m b o : Int) (i : Nat) (h : 1 < m) : Rf.formFrom m b o i [] = i := by simp [Rf.formFrom, h]
theorem ff_ok {m b o : Int} {i : Nat} {c : UInt8} {r : List UInt8} (x : Rf.RS) (h : Rf.read m b o c.toNat = x) (hx : x.ok = true) : Rf.formFrom m b o i (c :: r) = Rf.formFrom x.m x.bk x.o (i + 1) r := by
  simp [Rf.formFrom, h, hx]
theorem ff_no {m b o : Int} {i : Nat} {c : UInt8} {r : List UInt8} (x : Rf.RS) (h : Rf.read m b o c.toNat = x) (hx : x.ok = false) : Rf.formFrom m b o i (c :: r) = i := by
  simp [Rf.formFrom, h, hx]
theorem read_2x (b o : Int) : Rf.read 2 b o 120 = ⟨true, 3, b, o⟩ := by simp [Rf.read]
theorem read_2 (b o c : Int) (h : c ≠ 120) (hk : (c == 110 || c == 116 || Rf.has Rf.marks c) = true) : Rf.read 2 b o c = ⟨true, b, b, o⟩ := by
  simp only [Rf.read, if_neg h, hk]; rfl
theorem read_2n (b o c : Int) (h : c ≠ 120) (hk : (c == 110 || c == 116 || Rf.has Rf.marks c) = false) : Rf.read 2 b o c = ⟨false, 2, b, o⟩ := by
  simp only [Rf.read, if_neg h, hk]; rfl
theorem read_3 (b o c : Int) : Rf.read 3 b o c = ⟨Rf.hex c, if Rf.hex c then 4 else 3, b, o⟩ := by simp [Rf.read, Rf.to]
theorem read_4 (b o c : Int) : Rf.read 4 b o c = ⟨Rf.hex c, if Rf.hex c then b else 4, b, o⟩ := by simp [Rf.read, Rf.to]

/-- The reader goes over a text, byte by byte, each of which may stand, and opens and shuts nothing. -/
def steps (m b o : Int) : List UInt8 → Option (Int × Int)
  | [] => some (m, b)
  | c :: r => if (Rf.read m b o c.toNat).ok = true ∧ (Rf.read m b o c.toNat).o = o then steps (Rf.read m b o c.toNat).m (Rf.read m b o c.toNat).bk o r else none
theorem steps_cons {m b o : Int} {c : UInt8} {r : List UInt8} (x : Rf.RS) (h : Rf.read m b o c.toNat = x) (hx : x.ok = true) (ho : x.o = o) : steps m b o (c :: r) = steps x.m x.bk o r := by
  rw [steps, h, if_pos ⟨hx, ho⟩]
theorem steps_form {o : Int} : ∀ (w : List UInt8) (m b m' b' : Int) (i : Nat) (r : List UInt8), steps m b o w = some (m', b') → Rf.formFrom m b o i (w ++ r) = Rf.formFrom m' b' o (i + w.length) r
  | [], m, b, m', b', i, r, h => by simp only [steps, Option.some.injEq, Prod.mk.injEq] at h; rw [h.1, h.2]; rfl
  | c :: w, m, b, m', b', i, r, h => by
    rw [steps] at h
    split at h
    · rename_i hx
      rw [List.cons_append, ff_ok _ rfl hx.1, hx.2, steps_form w _ _ _ _ _ _ h]
      congr 1; simp; omega
    · cases h
theorem steps_deep {o : Int} (ho : o ≤ 6) : ∀ (w : List UInt8) (m b m' b' : Int) (i : Nat) (r : List UInt8), steps m b o w = some (m', b') → Rf.deepFrom m b o i (w ++ r) = Rf.deepFrom m' b' o (i + w.length) r
  | [], m, b, m', b', i, r, h => by simp only [steps, Option.some.injEq, Prod.mk.injEq] at h; rw [h.1, h.2]; rfl
  | c :: w, m, b, m', b', i, r, h => by
    rw [steps] at h
    split at h
    · rename_i hx
      rw [List.cons_append, Rf.deepFrom, hx.2, if_neg (by omega), steps_deep ho w _ _ _ _ _ _ h]
      congr 1; simp; omega
    · cases h
theorem steps_append {o : Int} : ∀ (w : List UInt8) (m b m' b' : Int) (r : List UInt8), steps m b o w = some (m', b') → steps m b o (w ++ r) = steps m' b' o r
  | [], m, b, m', b', r, h => by simp only [steps, Option.some.injEq, Prod.mk.injEq] at h; rw [h.1, h.2]; rfl
  | c :: w, m, b, m', b', r, h => by
    rw [steps] at h
    split at h
    · rename_i hx
      rw [List.cons_append, steps, if_pos hx]
      exact steps_append w _ _ _ _ _ h
    · cases h

/-- What readEscape answers, by the text behind the backslash. -/
theorem esc_cases (s : ByteArray) (k : Nat) (t : List UInt8) (h : s.data.toList.drop k = 92 :: t) :
    (∃ (n : Nat) (v : Int), Pg.readEscape (bat s) k = ⟨v, ((k + (n + 1) : Nat) : Int), true⟩ ∧ Rf.one (92 :: t) = some (v, n + 1) ∧ n ≤ t.length ∧ ∀ b o, steps 2 b o (t.take n) = some (b, b)) ∨
    (∃ n : Nat, (Pg.readEscape (bat s) k).ok = false ∧ (Pg.readEscape (bat s) k).n = ((k + n : Nat) : Int) ∧ ∀ b o, Rf.formFrom 2 b o (k + 1) t = ((k + n : Nat) : Int)) := by
  have e1 := bat_1 h
  have e2 := bat_2 h
  have e3 := bat_3 h
  have a21 : (k : Int) + 2 + 1 = (k : Int) + 3 := by omega
  rcases t with _ | ⟨d, t⟩
  · right
    refine ⟨1, ?_, ?_, fun b o => ?_⟩
    · simp [Pg.readEscape, e1, at_, Pg.isMark]
    · simp [Pg.readEscape, e1, at_, Pg.isMark]
    · rw [ff_nil _ _ _ _ (by omega)]
  have e1' : bat s ((k : Int) + 1) = d.toNat := by rw [e1]; rfl
  by_cases h120 : d = 120
  · subst h120
    have hE : Pg.readEscape (bat s) k = Pg.readHex (bat s) ((k : Int) + 2) := by
      unfold Pg.readEscape; rw [e1']; rfl
    rcases t with _ | ⟨x, t⟩
    · right
      have hx : Pg.hexValue (bat s ((k : Int) + 2)) < 0 := by rw [e2]; simp [at_, Pg.hexValue, Pg.digitValue]
      refine ⟨2, ?_, ?_, fun b o => ?_⟩
      · rw [hE, Pg.readHex, if_pos hx]
      · rw [hE, Pg.readHex, if_pos hx]; simp
      · rw [ff_ok _ (read_2x b o) rfl, ff_nil _ _ _ _ (by simp)]
    have e2' : bat s ((k : Int) + 2) = x.toNat := by rw [e2]; rfl
    by_cases hx : Pg.hexValue x.toNat < 0
    · right
      have hx1 : Rf.hex x.toNat = false := by rw [hex_iff]; simp; omega
      refine ⟨2, ?_, ?_, fun b o => ?_⟩
      · rw [hE, Pg.readHex, e2', if_pos hx]
      · rw [hE, Pg.readHex, e2', if_pos hx]; simp
      · rw [ff_ok _ (read_2x b o) rfl, ff_no _ (read_3 b o _) hx1]
    have hx1 : Rf.hex x.toNat = true := by rw [hex_iff]; simp; omega
    rcases t with _ | ⟨y, t⟩
    · right
      have hy : Pg.hexValue (bat s ((k : Int) + 3)) < 0 := by rw [e3]; simp [at_, Pg.hexValue, Pg.digitValue]
      refine ⟨3, ?_, ?_, fun b o => ?_⟩
      · rw [hE, Pg.readHex, e2', if_neg hx, a21, if_pos hy]
      · rw [hE, Pg.readHex, e2', if_neg hx, a21, if_pos hy]; simp
      · rw [ff_ok _ (read_2x b o) rfl, ff_ok _ (read_3 b o _) hx1]
        simp only [hx1, if_true]
        rw [ff_nil _ _ _ _ (by simp)]
    have e3' : bat s ((k : Int) + 3) = y.toNat := by rw [e3]; rfl
    by_cases hy : Pg.hexValue y.toNat < 0
    · right
      have hy1 : Rf.hex y.toNat = false := by rw [hex_iff]; simp; omega
      refine ⟨3, ?_, ?_, fun b o => ?_⟩
      · rw [hE, Pg.readHex, e2', if_neg hx, a21, e3', if_pos hy]
      · rw [hE, Pg.readHex, e2', if_neg hx, a21, e3', if_pos hy]; simp
      · rw [ff_ok _ (read_2x b o) rfl, ff_ok _ (read_3 b o _) hx1]
        simp only [hx1, if_true]
        rw [ff_no _ (read_4 b o _) hy1]
    · left
      have hy1 : Rf.hex y.toNat = true := by rw [hex_iff]; simp; omega
      refine ⟨3, Pg.hexValue x.toNat * 16 + Pg.hexValue y.toNat, ?_, ?_, by simp, fun b o => ?_⟩
      · rw [hE, Pg.readHex, e2', if_neg hx, a21, e3', if_neg hy]
        rw [show (k : Int) + 2 + 2 = ((k + (3 + 1) : Nat) : Int) by omega]
      · simp [Rf.one, hx1, hy1, number_eq _ hx1, number_eq _ hy1]
      · show steps 2 b o [120, x, y] = _
        have hq : Rf.read 2 b o ((120 : UInt8).toNat : Int) = ⟨true, 3, b, o⟩ := read_2x b o
        rw [steps_cons _ hq rfl rfl, steps_cons _ (read_3 b o _) hx1 rfl]
        simp only [hx1, if_true]
        rw [steps_cons _ (read_4 b o _) hy1 rfl]
        simp only [hy1, if_true]
        rfl
  · have h120' : (d.toNat : Int) ≠ 120 := by
      intro e; exact h120 (UInt8.toNat_inj.1 (by simpa using (by omega : d.toNat = 120)))
    cases hk : ((d.toNat : Int) == 110 || (d.toNat : Int) == 116 || Rf.has Rf.marks d.toNat)
    · right
      have hk' := hk
      rw [marks_iff] at hk'
      simp only [Bool.or_eq_false_iff, beq_eq_false_iff_ne] at hk'
      refine ⟨1, ?_, ?_, fun b o => ?_⟩
      · unfold Pg.readEscape; rw [e1', if_neg hk'.1.1, if_neg hk'.1.2, if_neg h120', hk'.2]; rfl
      · unfold Pg.readEscape; rw [e1', if_neg hk'.1.1, if_neg hk'.1.2, if_neg h120', hk'.2]; simp
      · rw [ff_no _ (read_2n b o _ h120' hk) rfl]
    · left
      have hst : ∀ b o, steps 2 b o ((d :: t).take 1) = some (b, b) := fun b o => by
        show steps 2 b o [d] = _
        rw [steps_cons _ (read_2 b o _ h120' hk) rfl rfl]; rfl
      by_cases h110 : d = 110
      · subst h110
        exact ⟨1, 10, by unfold Pg.readEscape; rw [e1', if_pos (by decide), show (k : Int) + 2 = ((k + (1 + 1) : Nat) : Int) by omega], by simp [Rf.one], by simp, hst⟩
      have h110' : (d.toNat : Int) ≠ 110 := by
        intro e; exact h110 (UInt8.toNat_inj.1 (by simpa using (by omega : d.toNat = 110)))
      by_cases h116 : d = 116
      · subst h116
        exact ⟨1, 9, by unfold Pg.readEscape; rw [e1', if_neg (by decide), if_pos (by decide), show (k : Int) + 2 = ((k + (1 + 1) : Nat) : Int) by omega], by simp [Rf.one], by simp, hst⟩
      have h116' : (d.toNat : Int) ≠ 116 := by
        intro e; exact h116 (UInt8.toNat_inj.1 (by simpa using (by omega : d.toNat = 116)))
      have hm : Pg.isMark d.toNat = true := by
        rw [← marks_iff]
        simpa [h110', h116'] using hk
      exact ⟨1, d.toNat, by unfold Pg.readEscape; rw [e1', if_neg h110', if_neg h116', if_neg h120', hm, if_pos rfl, show (k : Int) + 2 = ((k + (1 + 1) : Nat) : Int) by omega], by simp [Rf.one, h110, h116, h120], by simp, hst⟩

/-- A byte of a set. -/
theorem one_cases (s : ByteArray) (k : Nat) :
    (∃ (n : Nat) (v : Int), Pg.readOne (bat s) k = ⟨v, ((k + (n + 1) : Nat) : Int), true⟩ ∧ Rf.one (s.data.toList.drop k) = some (v, n + 1) ∧ n + 1 ≤ (s.data.toList.drop k).length ∧
      (∀ c r, s.data.toList.drop k = c :: r → c ≠ 93 ∧ c ≠ 45 ∧ c ≠ 94) ∧
      ∀ m m' b o, (∀ c r, s.data.toList.drop k = c :: r → Rf.read m b o c.toNat = Rf.inner m b o c.toNat m') → ∃ b', steps m b o ((s.data.toList.drop k).take (n + 1)) = some (m', b')) ∨
    (∃ n : Nat, (Pg.readOne (bat s) k).ok = false ∧ (Pg.readOne (bat s) k).n = ((k + n : Nat) : Int) ∧
      ∀ m m' b o, 1 < m → (∀ c r, s.data.toList.drop k = c :: r → Rf.read m b o c.toNat = Rf.inner m b o c.toNat m') → Rf.formFrom m b o k (s.data.toList.drop k) = ((k + n : Nat) : Int)) := by
  rcases hd : s.data.toList.drop k with _ | ⟨c, r⟩
  · have e0 : bat s (k : Int) = -1 := bat_0 hd
    right
    refine ⟨0, ?_, ?_, fun m m' b o hm _ => ?_⟩
    · simp [Pg.readOne, e0, Pg.isInner]
    · simp [Pg.readOne, e0, Pg.isInner]
    · rw [ff_nil _ _ _ _ hm]; simp
  have e0 : bat s (k : Int) = c.toNat := by rw [bat_0 hd]; rfl
  by_cases h92 : c = 92
  · subst h92
    have hR : Pg.readOne (bat s) k = Pg.readEscape (bat s) k := by rw [Pg.readOne, if_pos (by rw [e0]; rfl)]
    rcases esc_cases s k r hd with ⟨n, v, h1, h2, h3, h4⟩ | ⟨n, h1, h2, h3⟩
    · left
      refine ⟨n, v, by rw [hR, h1], h2, by simp; omega, fun c' r' he => by cases he; decide, fun m m' b o hi => ⟨m', ?_⟩⟩
      have hx : Rf.read m b o ((92 : UInt8).toNat : Int) = ⟨true, 2, m', o⟩ := by rw [hi 92 r rfl]; rfl
      rw [List.take_succ_cons, steps_cons _ hx rfl rfl]
      exact h4 m' o
    · right
      refine ⟨n, by rw [hR, h1], by rw [hR, h2], fun m m' b o hm hi => ?_⟩
      have hx : Rf.read m b o ((92 : UInt8).toNat : Int) = ⟨true, 2, m', o⟩ := by rw [hi 92 r rfl]; rfl
      rw [ff_ok _ hx rfl]; exact h3 m' o
  · have h92' : (c.toNat : Int) ≠ 92 := by
      intro e; exact h92 (UInt8.toNat_inj.1 (by simpa using (by omega : c.toNat = 92)))
    have hni := notInner_iff c.toNat (by omega) h92'
    have hx : ∀ m m' b o, (∀ c' r', c :: r = c' :: r' → Rf.read m b o c'.toNat = Rf.inner m b o c'.toNat m') → Rf.read m b o c.toNat = Rf.to m b o (Pg.isInner c.toNat) m' := fun m m' b o hi => by
      rw [hi c r rfl, Rf.inner, if_neg h92', hni]
    cases hin : Pg.isInner c.toNat
    · right
      refine ⟨0, ?_, ?_, fun m m' b o hm hi => ?_⟩
      · rw [Pg.readOne, e0, if_neg h92', hin]; rfl
      · rw [Pg.readOne, e0, if_neg h92', hin]; simp
      · rw [ff_no _ (hx m m' b o hi) (by rw [hin]; rfl)]; simp
    · left
      refine ⟨0, c.toNat, ?_, by simp [Rf.one, h92], by simp, ?_, fun m m' b o hi => ⟨b, ?_⟩⟩
      · rw [Pg.readOne, e0, if_neg h92', hin, if_pos rfl, show (k : Int) + 1 = ((k + (0 + 1) : Nat) : Int) by omega]
      · intro c' r' he
        cases he
        refine ⟨?_, ?_, ?_⟩ <;> (intro e; subst e; simp [Pg.isInner] at hin)
      · show steps m b o [c] = _
        rw [steps_cons _ (hx m m' b o hi) (by rw [hin]; rfl) rfl, hin]; rfl
end Go.Proofs.Ytoaaklhpmhjhkaa
