/-
  Plain mathematics: one part of a pattern: the program's and the reference's readers.
-/
import Derived.Test.YtoaaklhpmhjhkaaMathB
namespace Go.Proofs.Ytoaaklhpmhjhkaa
open Go.RowKit

/-- The reader's mode behind a part of a kind. -/
def modeOf (kd : Int) : Int := if Pg.endsPiece kd then 1 else 0
/-- A part that goes, at k: what each of the readers makes of it. -/
def TokOK (s : ByteArray) (k : Nat) (m b op kd : Int) : Prop :=
  ∃ (n : Nat) (F : Nat → Bool) (mo fa b' : Int), 1 ≤ n ∧ k + n ≤ s.size ∧ Pg.readPart (bat s) s.size k kd = ⟨((k + n : Nat) : Int), true, F, mo, fa⟩ ∧
    Rf.formFrom m b op k (s.data.toList.drop k) = Rf.formFrom (modeOf kd) b' (Pg.opens kd op) (k + n) (s.data.toList.drop (k + n)) ∧
    (op ≤ 6 → Rf.deepFrom m b op k (s.data.toList.drop k) = if 6 < Pg.opens kd op then (k : Int) else Rf.deepFrom (modeOf kd) b' (Pg.opens kd op) (k + n) (s.data.toList.drop (k + n))) ∧
    -1 ≤ fa ∧
    (∃ c, ∀ v, Rf.valueFrom s.data.toList (v + c) k = if fa = -1 then Rf.valueFrom s.data.toList v (k + n) else some fa) ∧
    (∃ c, ∀ v, Rf.emptyFrom s.data.toList (v + c) k = if kd = 1 ∧ Rf.cntTo F 256 = 0 then some (k : Int) else Rf.emptyFrom s.data.toList v (k + n))
theorem form_deep_of_steps {s : ByteArray} {k n : Nat} {m b op m' b' : Int} (hn : k + n ≤ s.size) (hst : steps m b op ((s.data.toList.drop k).take n) = some (m', b')) :
    Rf.formFrom m b op k (s.data.toList.drop k) = Rf.formFrom m' b' op (k + n) (s.data.toList.drop (k + n)) ∧ (op ≤ 6 → Rf.deepFrom m b op k (s.data.toList.drop k) = if 6 < op then (k : Int) else Rf.deepFrom m' b' op (k + n) (s.data.toList.drop (k + n))) := by
  have hsp : s.data.toList.drop k = (s.data.toList.drop k).take n ++ s.data.toList.drop (k + n) := by rw [← drop_add, List.take_append_drop]
  have hlen : ((s.data.toList.drop k).take n).length = n := by rw [List.length_take]; simp; omega
  constructor
  · have := steps_form _ _ _ _ _ k (s.data.toList.drop (k + n)) hst
    rw [hlen, ← hsp] at this; exact this
  · intro ho
    have := steps_deep ho _ _ _ _ _ k (s.data.toList.drop (k + n)) hst
    rw [hlen, ← hsp] at this
    rw [if_neg (by omega)]; exact this
theorem byte_ne {c d : UInt8} (h : c ≠ d) : (c.toNat : Int) ≠ (d.toNat : Int) := fun e => h (UInt8.toNat_inj.1 (by omega))
theorem cnt_with (v : Int) (h0 : 0 ≤ v) (h1 : v < 256) : Rf.cntTo (Pg.withF (fun _ => false) v v) 256 ≠ 0 := by
  obtain ⟨n, rfl⟩ := Int.eq_ofNat_of_zero_le h0
  have : ∀ (f : Nat → Bool) (k : Nat), f k = true → ∀ n, k < n → 0 < Rf.cntTo f n := by
    intro f k hk n
    induction n with
    | zero => intro h; omega
    | succ n ih =>
      intro h
      unfold Rf.cntTo
      by_cases e : k = n
      · subst e; simp [hk]
      · have := ih (by omega); omega
  have := this (Pg.withF (fun _ => false) (n : Int) (n : Int)) n (by simp [Pg.withF]) 256 (by omega)
  omega
theorem cnt_dot : Rf.cntTo (fun k => !(Pg.withF (fun _ => false) 10 10 k)) 256 ≠ 0 := by decide +kernel
/-- value, empty over a byte that is neither a backslash, nor an opening bracket, nor an opening brace. -/
theorem value_skip {l : List UInt8} {k : Nat} {c : UInt8} {r : List UInt8} (hd : l.drop k = c :: r) (h1 : c ≠ 92) (h2 : c ≠ 91) (h3 : c ≠ 123) (v : Nat) : Rf.valueFrom l (v + 1) k = Rf.valueFrom l v (k + 1) := by
  rw [Rf.valueFrom, hd]; simp only [if_neg h1, if_neg h2, if_neg h3]
theorem empty_skip {l : List UInt8} {k : Nat} {c : UInt8} {r : List UInt8} (hd : l.drop k = c :: r) (h1 : c ≠ 92) (h2 : c ≠ 91) (v : Nat) : Rf.emptyFrom l (v + 1) k = Rf.emptyFrom l v (k + 1) := by
  rw [Rf.emptyFrom, hd]; simp only [if_neg h1, if_neg h2]

theorem tok_set (s : ByteArray) (k : Nat) (t : List UInt8) (m b op : Int) (hm : m = 0 ∨ m = 1) (hd : s.data.toList.drop k = 91 :: t) :
    TokOK s k m b op 1 ∨ ((Pg.readPart (bat s) s.size k 1).ok = false ∧ Rf.formFrom m b op k (s.data.toList.drop k) = (Pg.readPart (bat s) s.size k 1).n) := by
  have hb : bat s (k : Int) = 91 := by rw [bat_0 hd]; rfl
  have hP : Pg.readPart (bat s) s.size k 1 = ⟨(Pg.readSet (bat s) s.size k).n, (Pg.readSet (bat s) s.size k).ok, (Pg.readSet (bat s) s.size k).f, 0, (Pg.readSet (bat s) s.size k).fa⟩ := by
    rw [Pg.readPart, if_pos rfl, Pg.readPlace, if_pos hb]
  rcases set_cases s k t m b op hm hd with ⟨n, F, FA, h1, h2, h3, h4, h5, b', h6⟩ | ⟨h1, h2⟩
  · left
    obtain ⟨g1, g2⟩ := form_deep_of_steps (n := n - k) (by omega) h6
    rw [show k + (n - k) = n by omega] at g1 g2
    refine ⟨n - k, F, 0, FA, b', by omega, by omega, ?_, ?_, ?_, h5, ⟨1, fun v => ?_⟩, ⟨1, fun v => ?_⟩⟩
    · rw [hP, h3, show k + (n - k) = n by omega]
    · rw [show k + (n - k) = n by omega]; exact g1
    · rw [show k + (n - k) = n by omega]; exact g2
    · rw [show k + (n - k) = n by omega, Rf.valueFrom, hd]
      simp only [h4]
      by_cases hf : FA = -1
      · subst hf; simp
      · simp [hf, show 0 ≤ FA by omega]
    · rw [show k + (n - k) = n by omega, Rf.emptyFrom, hd]
      simp [h4]
  · right
    exact ⟨by rw [hP]; exact h1, by rw [hP]; exact h2⟩

theorem tok_esc (s : ByteArray) (k : Nat) (t : List UInt8) (m b op : Int) (hm : m = 0 ∨ m = 1) (hd : s.data.toList.drop k = 92 :: t) :
    TokOK s k m b op 1 ∨ ((Pg.readPart (bat s) s.size k 1).ok = false ∧ Rf.formFrom m b op k (s.data.toList.drop k) = (Pg.readPart (bat s) s.size k 1).n) := by
  have hb : bat s (k : Int) = 92 := by rw [bat_0 hd]; rfl
  have hP : Pg.readPart (bat s) s.size k 1 = ⟨(Pg.readEscape (bat s) k).n, (Pg.readEscape (bat s) k).ok, Pg.withF (fun _ => false) (Pg.readEscape (bat s) k).v (Pg.readEscape (bat s) k).v, 0, -1⟩ := by
    rw [Pg.readPart, if_pos rfl, Pg.readPlace, if_neg (by rw [hb]; decide), if_neg (by rw [hb]; decide), if_pos hb]
  have h2 : Rf.read m b op ((92 : UInt8).toNat : Int) = ⟨true, 2, 1, op⟩ := by rcases hm with rfl | rfl <;> rfl
  rcases esc_cases s k t hd with ⟨n, v, h1, h3, h4, h5⟩ | ⟨n, h1, h3, h4⟩
  · left
    have hlen : t.length + 1 = s.size - k := by
      have : (s.data.toList.drop k).length = s.size - k := by simp
      rw [hd] at this; simpa using this
    have hst : steps m b op ((s.data.toList.drop k).take (n + 1)) = some (1, 1) := by
      rw [hd, List.take_succ_cons, steps_cons _ h2 rfl rfl]; exact h5 1 op
    have hvb := Rf.one_bd h3
    have hlt := lt_of_drop hd
    obtain ⟨g1, g2⟩ := form_deep_of_steps (n := n + 1) (by omega) hst
    refine ⟨n + 1, Pg.withF (fun _ => false) v v, 0, -1, 1, by omega, by omega, by rw [hP, h1], g1, g2, by omega, ⟨1, fun v' => ?_⟩, ⟨1, fun v' => ?_⟩⟩
    · rw [Rf.valueFrom, hd]
      simp only [h3]; simp
    · rw [Rf.emptyFrom, hd]
      simp only [h3]
      simp [cnt_with v hvb.1 hvb.2.1]
  · right
    refine ⟨by rw [hP]; exact h1, ?_⟩
    rw [hP, hd, ff_ok _ h2 rfl, h4 1 op]; exact h3.symm

theorem tok_byte (s : ByteArray) (k : Nat) (c : UInt8) (r : List UInt8) (m b op kd : Int) (F : Nat → Bool) (x : Rf.RS) (hd : s.data.toList.drop k = c :: r) (h92 : c ≠ 92) (h91 : c ≠ 91) (h123 : c ≠ 123)
    (hx : Rf.read m b op c.toNat = x) (hok : x.ok = true) (hxm : x.m = modeOf kd) (hxo : x.o = Pg.opens kd op) (hp : Pg.readPart (bat s) s.size k kd = ⟨(k : Int) + 1, true, F, 0, -1⟩) (hc : ¬ (kd = 1 ∧ Rf.cntTo F 256 = 0)) : TokOK s k m b op kd := by
  have hlt := lt_of_drop hd
  have hd1 : s.data.toList.drop (k + 1) = r := by rw [← drop_add, hd]; rfl
  refine ⟨1, F, 0, -1, x.bk, by omega, by omega, by rw [hp]; rfl, ?_, fun _ => ?_, by omega, ⟨1, fun v => ?_⟩, ⟨1, fun v => ?_⟩⟩
  · rw [hd, ff_ok x hx hok, hxm, hxo, hd1]
  · rw [hd, Rf.deepFrom, hx, hxm, hxo, hd1]
  · rw [value_skip hd h92 h91 h123]; simp
  · rw [empty_skip hd h92 h91, if_neg hc]

theorem read_5 (b o c : Int) : Rf.read 5 b o c = ⟨Rf.digit c, if Rf.digit c then 6 else 5, b, o⟩ := by simp [Rf.read, Rf.to]
theorem read_6c (b o : Int) : Rf.read 6 b o 44 = ⟨true, 7, b, o⟩ := by simp [Rf.read]
theorem read_6 (b o c : Int) (h : c ≠ 44) : Rf.read 6 b o c = ⟨c == 125, if (c == 125) = true then 1 else 6, b, o⟩ := by simp only [Rf.read, Rf.to, if_neg h]; rfl
theorem read_7 (b o c : Int) : Rf.read 7 b o c = ⟨Rf.digit c, if Rf.digit c then 8 else 7, b, o⟩ := by simp [Rf.read, Rf.to]
theorem read_8 (b o c : Int) : Rf.read 8 b o c = ⟨c == 125, if (c == 125) = true then 1 else 8, b, o⟩ := by simp only [Rf.read, Rf.to]; rfl
theorem digitValue_eq (c : Int) (h : ¬ Pg.digitValue c < 0) : Pg.digitValue c = c - 48 ∧ 48 ≤ c ∧ c ≤ 57 := by
  unfold Pg.digitValue at h ⊢
  split
  · rename_i h1; exact ⟨rfl, h1.1, h1.2⟩
  · rename_i h1; rw [if_neg h1] at h; omega

/-- A count that goes: what it looks like. -/
def CountAt (t : List UInt8) (n : Nat) (mo le : Int) : Prop :=
  (∃ x r, t = x :: 125 :: r ∧ n = 3 ∧ 48 ≤ (x.toNat : Int) ∧ (x.toNat : Int) ≤ 57 ∧ mo = (x.toNat : Int) - 48 ∧ le = (x.toNat : Int) - 48) ∨
  (∃ x z r, t = x :: 44 :: z :: 125 :: r ∧ n = 5 ∧ 48 ≤ (x.toNat : Int) ∧ (x.toNat : Int) ≤ 57 ∧ 48 ≤ (z.toNat : Int) ∧ (z.toNat : Int) ≤ 57 ∧ mo = (z.toNat : Int) - 48 ∧ le = (x.toNat : Int) - 48)
theorem count_cases (s : ByteArray) (k : Nat) (t : List UInt8) (b o : Int) (hd : s.data.toList.drop k = 123 :: t) :
    (∃ (n : Nat) (mo le : Int), Pg.readCount (bat s) k = ⟨mo, ((k + n : Nat) : Int), true⟩ ∧ Pg.digitValue (bat s ((k : Int) + 1)) = le ∧ CountAt t n mo le ∧ steps 1 b o ((123 :: t).take n) = some (1, b)) ∨
    ((Pg.readCount (bat s) k).ok = false ∧ Rf.formFrom 1 b o k (123 :: t) = (Pg.readCount (bat s) k).n) := by
  have e1 := bat_1 hd
  have e2 := bat_2 hd
  have e3 := bat_3 hd
  have e4 := bat_4 hd
  have a1 : (k : Int) + 2 + 1 = (k : Int) + 3 := by omega
  have a2 : (k : Int) + 2 + 2 = (k : Int) + 4 := by omega
  have h5 : Rf.read 1 b o ((123 : UInt8).toNat : Int) = ⟨true, 5, b, o⟩ := rfl
  rcases t with _ | ⟨x, t⟩
  · right
    have hx : Pg.digitValue (bat s ((k : Int) + 1)) < 0 := by rw [e1]; simp [at_, Pg.digitValue]
    rw [Pg.readCount, if_pos hx]
    refine ⟨rfl, ?_⟩
    rw [ff_ok _ h5 rfl, ff_nil _ _ _ _ (by simp)]; first | (simp; done) | (simp; omega) | omega
  have e1' : bat s ((k : Int) + 1) = x.toNat := by rw [e1]; rfl
  by_cases hx : Pg.digitValue x.toNat < 0
  · right
    have hx1 : Rf.digit x.toNat = false := by rw [digit_iff]; simp; omega
    rw [Pg.readCount, e1', if_pos hx]
    refine ⟨rfl, ?_⟩
    rw [ff_ok _ h5 rfl, ff_no _ (read_5 b o _) hx1]; first | (simp; done) | (simp; omega) | omega
  have hx1 : Rf.digit x.toNat = true := by rw [digit_iff]; simp; omega
  obtain ⟨x1, x2, x3⟩ := digitValue_eq _ hx
  have hC : Pg.readCount (bat s) k = Pg.readMost (bat s) ((k : Int) + 2) ((x.toNat : Int) - 48) := by rw [Pg.readCount, e1', if_neg hx, x1]
  have hf5 : ∀ r, Rf.formFrom 1 b o k (123 :: x :: r) = Rf.formFrom 6 b o (k + 2) r := fun r => by
    rw [ff_ok _ h5 rfl, ff_ok _ (read_5 b o _) hx1]; simp only [hx1, if_true]
  have hs5 : ∀ r, steps 1 b o (123 :: x :: r) = steps 6 b o r := fun r => by
    rw [steps_cons _ h5 rfl rfl, steps_cons _ (read_5 b o _) hx1 rfl]; simp only [hx1, if_true]
  rcases t with _ | ⟨y, t⟩
  · right
    have hy : bat s ((k : Int) + 2) = -1 := by rw [e2]; rfl
    rw [hC, Pg.readMost, hy]
    refine ⟨rfl, ?_⟩
    rw [hf5, ff_nil _ _ _ _ (by simp)]; first | (simp; done) | (simp; omega) | omega
  have e2' : bat s ((k : Int) + 2) = y.toNat := by rw [e2]; rfl
  by_cases hy125 : y = 125
  · subst hy125
    left
    refine ⟨3, (x.toNat : Int) - 48, (x.toNat : Int) - 48, ?_, by rw [e1', x1], Or.inl ⟨x, t, rfl, rfl, x2, x3, rfl, rfl⟩, ?_⟩
    · rw [hC, Pg.readMost, e2', if_pos (by decide), show (k : Int) + 2 + 1 = ((k + 3 : Nat) : Int) by omega]
    · show steps 1 b o [123, x, 125] = _
      rw [hs5, steps_cons _ (read_6 b o _ (by decide)) (by rfl) rfl]; rfl
  have hy125' := byte_ne hy125
  have hy125'' : (y.toNat : Int) ≠ 125 := hy125'
  by_cases hy44 : y = 44
  · subst hy44
    have h7 : Rf.read 6 b o ((44 : UInt8).toNat : Int) = ⟨true, 7, b, o⟩ := read_6c b o
    have hM : Pg.readCount (bat s) k = if Pg.digitValue (bat s ((k : Int) + 3)) < 0 then ⟨0, (k : Int) + 3, false⟩ else if bat s ((k : Int) + 4) = 125 then ⟨Pg.digitValue (bat s ((k : Int) + 3)), (k : Int) + 2 + 3, true⟩ else ⟨0, (k : Int) + 4, false⟩ := by
      rw [hC, Pg.readMost, e2', if_neg (by decide), if_pos (by decide), a1, a2]
    rcases t with _ | ⟨z, t⟩
    · right
      have hz : Pg.digitValue (bat s ((k : Int) + 3)) < 0 := by rw [e3]; simp [at_, Pg.digitValue]
      rw [hM, if_pos hz]
      refine ⟨rfl, ?_⟩
      rw [hf5, ff_ok _ h7 rfl, ff_nil _ _ _ _ (by simp)]; first | (simp; done) | (simp; omega) | omega
    have e3' : bat s ((k : Int) + 3) = z.toNat := by rw [e3]; rfl
    by_cases hz : Pg.digitValue z.toNat < 0
    · right
      have hz1 : Rf.digit z.toNat = false := by rw [digit_iff]; simp; omega
      rw [hM, e3', if_pos hz]
      refine ⟨rfl, ?_⟩
      rw [hf5, ff_ok _ h7 rfl, ff_no _ (read_7 b o _) hz1]; first | (simp; done) | (simp; omega) | omega
    have hz1 : Rf.digit z.toNat = true := by rw [digit_iff]; simp; omega
    obtain ⟨z1, z2, z3⟩ := digitValue_eq _ hz
    rcases t with _ | ⟨y2, t⟩
    · right
      have hq : bat s ((k : Int) + 4) = -1 := by rw [e4]; rfl
      rw [hM, e3', if_neg hz, hq, if_neg (by decide)]
      refine ⟨rfl, ?_⟩
      rw [hf5, ff_ok _ h7 rfl, ff_ok _ (read_7 b o _) hz1]
      simp only [hz1, if_true]
      rw [ff_nil _ _ _ _ (by simp)]; first | (simp; done) | (simp; omega) | omega
    have e4' : bat s ((k : Int) + 4) = y2.toNat := by rw [e4]; rfl
    by_cases hq : y2 = 125
    · subst hq
      left
      refine ⟨5, (z.toNat : Int) - 48, (x.toNat : Int) - 48, ?_, by rw [e1', x1], Or.inr ⟨x, z, t, rfl, rfl, x2, x3, z2, z3, rfl, rfl⟩, ?_⟩
      · rw [hM, e3', if_neg hz, e4', if_pos (by decide), z1, show (k : Int) + 2 + 3 = ((k + 5 : Nat) : Int) by omega]
      · show steps 1 b o [123, x, 44, z, 125] = _
        rw [hs5, steps_cons _ h7 rfl rfl, steps_cons _ (read_7 b o _) hz1 rfl]
        simp only [hz1, if_true]
        rw [steps_cons _ (read_8 b o _) (by rfl) rfl]; rfl
    · right
      have hq' : (y2.toNat : Int) ≠ 125 := byte_ne hq
      rw [hM, e3', if_neg hz, e4', if_neg hq']
      refine ⟨rfl, ?_⟩
      rw [hf5, ff_ok _ h7 rfl, ff_ok _ (read_7 b o _) hz1]
      simp only [hz1, if_true]
      rw [ff_no _ (read_8 b o _) (by simpa using hq')]; first | (simp; done) | (simp; omega) | omega
  · right
    have hy44' : (y.toNat : Int) ≠ 44 := byte_ne hy44
    rw [hC, Pg.readMost, e2', if_neg hy125'', if_neg hy44']
    refine ⟨rfl, ?_⟩
    rw [hf5, ff_no _ (read_6 b o _ hy44') (by simpa using hy125'')]; first | (simp; done) | (simp; omega) | omega

theorem digit_skip {x : UInt8} (h0 : 48 ≤ (x.toNat : Int)) (h1 : (x.toNat : Int) ≤ 57) : x ≠ 92 ∧ x ≠ 91 ∧ x ≠ 123 := by
  refine ⟨?_, ?_, ?_⟩ <;> (intro e; subst e; revert h0 h1; decide)
theorem tok_count (s : ByteArray) (k : Nat) (t : List UInt8) (b op : Int) (hd : s.data.toList.drop k = 123 :: t) :
    TokOK s k 1 b op 8 ∨ ((Pg.readPart (bat s) s.size k 8).ok = false ∧ Rf.formFrom 1 b op k (s.data.toList.drop k) = (Pg.readPart (bat s) s.size k 8).n) := by
  have hP : Pg.readPart (bat s) s.size k 8 = ⟨(Pg.readCount (bat s) k).n, (Pg.readCount (bat s) k).ok, fun _ => false, (Pg.readCount (bat s) k).v, Pg.countFalls (bat s) k⟩ := rfl
  have hlenk : (s.data.toList.drop k).length = s.size - k := by simp
  rw [hd] at hlenk
  rcases count_cases s k t b op hd with ⟨n, mo, le, h1, h2, h3, h4⟩ | ⟨h1, h2⟩
  · left
    have hlt := lt_of_drop hd
    have hn : 1 ≤ n ∧ k + n ≤ s.size := by
      rcases h3 with ⟨x, r, rfl, rfl, _⟩ | ⟨x, z, r, rfl, rfl, _⟩ <;> (simp at hlenk; omega)
    have hF : Pg.countFalls (bat s) k = if mo < le then (k : Int) else -1 := by rw [Pg.countFalls, h1, h2]
    rw [← hd] at h4
    obtain ⟨g1, g2⟩ := form_deep_of_steps hn.2 h4
    refine ⟨n, fun _ => false, mo, if mo < le then (k : Int) else -1, b, hn.1, hn.2, by rw [hP, h1, hF], g1, g2, by split <;> omega, ?_, ?_⟩
    · rcases h3 with ⟨x, r, rfl, rfl, x1, x2, rfl, rfl⟩ | ⟨x, z, r, rfl, rfl, x1, x2, z1, z2, rfl, rfl⟩
      · have d1 : s.data.toList.drop (k + 1) = x :: 125 :: r := by rw [← drop_add, hd]; rfl
        have d2 : s.data.toList.drop (k + 2) = 125 :: r := by rw [← drop_add, hd]; rfl
        obtain ⟨q1, q2, q3⟩ := digit_skip x1 x2
        refine ⟨3, fun v => ?_⟩
        have hfa : (if (x.toNat : Int) - 48 < (x.toNat : Int) - 48 then (k : Int) else -1) = -1 := if_neg (by omega)
        simp only [hfa, if_true]
        rw [show v + 3 = v + 2 + 1 by omega, Rf.valueFrom, hd]
        simp only
        rw [if_neg (by decide), if_neg (by decide), if_pos trivial, if_neg (by decide)]
        rw [show v + 2 = v + 1 + 1 by omega, value_skip d1 q1 q2 q3, value_skip d2 (by decide) (by decide) (by decide)]
      · have d1 : s.data.toList.drop (k + 1) = x :: 44 :: z :: 125 :: r := by rw [← drop_add, hd]; rfl
        have d2 : s.data.toList.drop (k + 2) = 44 :: z :: 125 :: r := by rw [← drop_add, hd]; rfl
        have d3 : s.data.toList.drop (k + 3) = z :: 125 :: r := by rw [← drop_add, hd]; rfl
        have d4 : s.data.toList.drop (k + 4) = 125 :: r := by rw [← drop_add, hd]; rfl
        obtain ⟨q1, q2, q3⟩ := digit_skip x1 x2
        obtain ⟨p1, p2, p3⟩ := digit_skip z1 z2
        refine ⟨5, fun v => ?_⟩
        rw [show v + 5 = v + 4 + 1 by omega, Rf.valueFrom, hd]
        simp only
        rw [if_neg (by decide), if_neg (by decide), if_pos trivial, if_pos trivial]
        by_cases hlt2 : z.toNat < x.toNat
        · have hfa : (if (z.toNat : Int) - 48 < (x.toNat : Int) - 48 then (k : Int) else -1) = k := if_pos (by omega)
          rw [if_pos hlt2, hfa, if_neg (by omega)]
        · have hfa : (if (z.toNat : Int) - 48 < (x.toNat : Int) - 48 then (k : Int) else -1) = -1 := if_neg (by omega)
          rw [if_neg hlt2]
          simp only [hfa, if_true]
          rw [show v + 4 = v + 3 + 1 by omega, value_skip d1 q1 q2 q3, show v + 3 = v + 2 + 1 by omega, value_skip d2 (by decide) (by decide) (by decide), show v + 2 = v + 1 + 1 by omega, value_skip d3 p1 p2 p3, value_skip d4 (by decide) (by decide) (by decide)]
    · rcases h3 with ⟨x, r, rfl, rfl, x1, x2, rfl, rfl⟩ | ⟨x, z, r, rfl, rfl, x1, x2, z1, z2, rfl, rfl⟩
      · have d1 : s.data.toList.drop (k + 1) = x :: 125 :: r := by rw [← drop_add, hd]; rfl
        have d2 : s.data.toList.drop (k + 2) = 125 :: r := by rw [← drop_add, hd]; rfl
        obtain ⟨q1, q2, q3⟩ := digit_skip x1 x2
        refine ⟨3, fun v => ?_⟩
        rw [if_neg (by omega), show v + 3 = v + 2 + 1 by omega, empty_skip hd (by decide) (by decide), show v + 2 = v + 1 + 1 by omega, empty_skip d1 q1 q2, empty_skip d2 (by decide) (by decide)]
      · have d1 : s.data.toList.drop (k + 1) = x :: 44 :: z :: 125 :: r := by rw [← drop_add, hd]; rfl
        have d2 : s.data.toList.drop (k + 2) = 44 :: z :: 125 :: r := by rw [← drop_add, hd]; rfl
        have d3 : s.data.toList.drop (k + 3) = z :: 125 :: r := by rw [← drop_add, hd]; rfl
        have d4 : s.data.toList.drop (k + 4) = 125 :: r := by rw [← drop_add, hd]; rfl
        obtain ⟨q1, q2, q3⟩ := digit_skip x1 x2
        obtain ⟨p1, p2, p3⟩ := digit_skip z1 z2
        refine ⟨5, fun v => ?_⟩
        rw [if_neg (by omega), show v + 5 = v + 4 + 1 by omega, empty_skip hd (by decide) (by decide), show v + 4 = v + 3 + 1 by omega, empty_skip d1 q1 q2, show v + 3 = v + 2 + 1 by omega, empty_skip d2 (by decide) (by decide), show v + 2 = v + 1 + 1 by omega, empty_skip d3 p1 p2, empty_skip d4 (by decide) (by decide)]
  · right
    refine ⟨by rw [hP]; exact h1, ?_⟩
    rw [hP, hd]; exact h2
end Go.Proofs.Ytoaaklhpmhjhkaa
