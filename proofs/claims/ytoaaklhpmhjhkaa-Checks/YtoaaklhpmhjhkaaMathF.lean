/-
  Plain mathematics: tokens, patterns and pieces; the program's count of places.
-/
import Derived.Test.YtoaaklhpmhjhkaaMathE
namespace Go.Proofs.Ytoaaklhpmhjhkaa
open Go.RowKit

/-- A part as a word of the text, its kind, its greater count. -/
structure Tk where
  w : List UInt8
  kd : Int
  mo : Int
def txt (ts : List Tk) : List UInt8 := ts.flatMap (·.w)
theorem txt_append (a b : List Tk) : txt (a ++ b) = txt a ++ txt b := by simp [txt]
theorem txt_cons (t : Tk) (b : List Tk) : txt (t :: b) = t.w ++ txt b := by simp [txt]
/-- What the words look like. -/
def Special (c : UInt8) : Prop := c = 92 ∨ c = 91 ∨ c = 123 ∨ c = 40 ∨ c = 41 ∨ c = 124 ∨ c = 42 ∨ c = 43 ∨ c = 63 ∨ c = 93 ∨ c = 125
def IsPlaceW (w : List UInt8) : Prop :=
  (∃ c, w = [c] ∧ ¬ Special c) ∨ (∃ e v, w = 92 :: e ∧ ∀ r, Rf.one (92 :: (e ++ r)) = some (v, e.length + 1)) ∨
  (∃ e, w = 91 :: e ∧ ∀ r i, ∃ fa inn, Rf.set (e ++ r) i = some (i + (e.length + 1), fa, inn))
def IsCountW (w : List UInt8) (mo : Int) : Prop :=
  (∃ x : UInt8, w = [123, x, 125] ∧ 48 ≤ (x.toNat : Int) ∧ (x.toNat : Int) ≤ 57 ∧ mo = (x.toNat : Int) - 48) ∨
  (∃ x z : UInt8, w = [123, x, 44, z, 125] ∧ 48 ≤ (x.toNat : Int) ∧ (x.toNat : Int) ≤ 57 ∧ 48 ≤ (z.toNat : Int) ∧ (z.toNat : Int) ≤ 57 ∧ mo = (z.toNat : Int) - 48)
def TkOK (t : Tk) : Prop :=
  (t.kd = 1 ∧ IsPlaceW t.w) ∨ (t.kd = 2 ∧ t.w = [40]) ∨ (t.kd = 3 ∧ t.w = [41]) ∨ (t.kd = 4 ∧ t.w = [124]) ∨ (t.kd = 5 ∧ t.w = [42]) ∨ (t.kd = 6 ∧ t.w = [43]) ∨ (t.kd = 7 ∧ t.w = [63]) ∨ (t.kd = 8 ∧ IsCountW t.w t.mo)
def isSuf (t : Tk) : Prop := t.kd = 5 ∨ t.kd = 6 ∨ t.kd = 7 ∨ t.kd = 8
/-- true: a pattern of V places; false: a piece. -/
def Is : Nat → Bool → List Tk → Int → Prop
  | 0, _, _, _ => False
  | f + 1, true, ts, V => (ts = [] ∧ V = 0) ∨ (∃ t r, ts = t :: r ∧ TkOK t ∧ t.kd = 4 ∧ Is f true r V) ∨
      (∃ p r A B, ts = p ++ r ∧ Is f false p A ∧ Is f true r B ∧ V = A + B ∧ ∀ t r', r = t :: r' → ¬ isSuf t)
  | f + 1, false, ts, V => (∃ t, ts = [t] ∧ TkOK t ∧ t.kd = 1 ∧ V = 1) ∨ (∃ a inn b, ts = a :: (inn ++ [b]) ∧ TkOK a ∧ a.kd = 2 ∧ TkOK b ∧ b.kd = 3 ∧ Is f true inn V) ∨
      (∃ q t A, ts = q ++ [t] ∧ Is f false q A ∧ TkOK t ∧ isSuf t ∧ V = if t.kd = 8 then A * t.mo else A)
theorem Is_succ : ∀ (f : Nat) (g : Bool) (ts : List Tk) (V : Int), Is f g ts V → Is (f + 1) g ts V := by
  intro f
  induction f with
  | zero => intro g ts V h; exact absurd h (by simp [Is])
  | succ f ih =>
    intro g ts V h
    cases g
    · unfold Is at h ⊢
      rcases h with h | ⟨a, inn, b, h1, h2, h3, h4, h5, h6⟩ | ⟨q, t, A, h1, h2, h3, h4, h5⟩
      · exact Or.inl h
      · exact Or.inr (Or.inl ⟨a, inn, b, h1, h2, h3, h4, h5, ih _ _ _ h6⟩)
      · exact Or.inr (Or.inr ⟨q, t, A, h1, ih _ _ _ h2, h3, h4, h5⟩)
    · unfold Is at h ⊢
      rcases h with h | ⟨t, r, h1, h2, h3, h4⟩ | ⟨p, r, A, B, h1, h2, h3, h4, h5⟩
      · exact Or.inl h
      · exact Or.inr (Or.inl ⟨t, r, h1, h2, h3, ih _ _ _ h4⟩)
      · exact Or.inr (Or.inr ⟨p, r, A, B, h1, ih _ _ _ h2, ih _ _ _ h3, h4, h5⟩)
theorem Is_mono {f g : Nat} {b : Bool} {ts : List Tk} {V : Int} (h : Is f b ts V) (hfg : f ≤ g) : Is g b ts V := by
  induction g with
  | zero => have : f = 0 := by omega
            subst this; exact h
  | succ g ih =>
    by_cases e : f = g + 1
    · subst e; exact h
    · exact Is_succ _ _ _ _ (ih (by omega))
/-- Parts that may stand one behind the other, and shut all that is open. -/
def Val : List Tk → Int → Int → Prop
  | [], _, op => op = 0
  | t :: r, bf, op => TkOK t ∧ Pg.canStand t.kd bf op = true ∧ Val r t.kd (Pg.opens t.kd op)
theorem kd_cases {t : Tk} (h : TkOK t) : t.kd = 1 ∨ t.kd = 2 ∨ t.kd = 3 ∨ t.kd = 4 ∨ isSuf t := by
  unfold isSuf
  rcases h with h | h | h | h | h | h | h | h <;> omega
theorem opens_suf {t : Tk} (h : isSuf t) (op : Int) : Pg.opens t.kd op = op := by
  unfold Pg.opens isSuf at *
  rw [if_neg (by omega), if_neg (by omega)]
/-- The suffixes behind a piece. -/
theorem peel : ∀ (r : List Tk) (f : Nat) (q : List Tk) (A bf op : Int), Is f false q A → Val r bf op →
    ∃ f' q' A' r' bf', q ++ r = q' ++ r' ∧ Is f' false q' A' ∧ Val r' bf' op ∧ r'.length ≤ r.length ∧ ∀ t r'', r' = t :: r'' → ¬ isSuf t := by
  intro r
  induction r with
  | nil => intro f q A bf op h hv; exact ⟨f, q, A, [], bf, rfl, h, hv, Nat.le_refl _, by simp⟩
  | cons t r ih =>
    intro f q A bf op h hv
    by_cases hs : isSuf t
    · obtain ⟨h1, h2, h3⟩ := hv
      rw [opens_suf hs] at h3
      have hq : Is (f + 1) false (q ++ [t]) (if t.kd = 8 then A * t.mo else A) := Or.inr (Or.inr ⟨q, t, A, rfl, h, h1, hs, rfl⟩)
      obtain ⟨f', q', A', r', bf', e1, e2, e3, e4, e5⟩ := ih (f + 1) (q ++ [t]) _ _ op hq h3
      exact ⟨f', q', A', r', bf', by rw [← e1]; simp, e2, e3, by simp; omega, e5⟩
    · exact ⟨f, q, A, t :: r, bf, rfl, h, hv, Nat.le_refl _, fun t' r'' e => by cases e; exact hs⟩
/-- Parts that may stand are a pattern, up to a parenthesis that shuts one that was open before. -/
theorem parse : ∀ (n : Nat) (ts : List Tk) (bf op : Int), ts.length ≤ n → 0 ≤ op → Val ts bf op → (∀ t r, ts = t :: r → ¬ isSuf t) →
    ∃ f inn rest V, ts = inn ++ rest ∧ Is f true inn V ∧ ((rest = [] ∧ op = 0) ∨ (∃ b r, rest = b :: r ∧ TkOK b ∧ b.kd = 3 ∧ 0 < op ∧ Val r 3 (op - 1))) := by
  intro n
  induction n with
  | zero =>
    intro ts bf op hl h0 hv _
    have : ts = [] := List.eq_nil_of_length_eq_zero (by omega)
    subst this
    exact ⟨1, [], [], 0, rfl, Or.inl ⟨rfl, rfl⟩, Or.inl ⟨rfl, hv⟩⟩
  | succ n ih =>
    intro ts bf op hl h0 hv hns
    rcases ts with _ | ⟨t, r⟩
    · exact ⟨1, [], [], 0, rfl, Or.inl ⟨rfl, rfl⟩, Or.inl ⟨rfl, hv⟩⟩
    obtain ⟨h1, h2, h3⟩ := hv
    simp only [List.length_cons] at hl
    -- a piece q, and what is left behind it
    have go : ∀ (f : Nat) (q r0 : List Tk) (A bf0 : Int), Is f false q A → Val r0 bf0 op → r0.length ≤ n → t :: r = q ++ r0 →
        ∃ f inn rest V, t :: r = inn ++ rest ∧ Is f true inn V ∧ ((rest = [] ∧ op = 0) ∨ (∃ b r, rest = b :: r ∧ TkOK b ∧ b.kd = 3 ∧ 0 < op ∧ Val r 3 (op - 1))) := by
      intro f q r0 A bf0 hq hv0 hl0 he
      obtain ⟨f', q', A', r', bf', e1, e2, e3, e4, e5⟩ := peel r0 f q A bf0 op hq hv0
      obtain ⟨f2, inn, rest, V, g1, g2, g3⟩ := ih r' bf' op (by omega) h0 e3 e5
      refine ⟨max f' f2 + 1, q' ++ inn, rest, A' + V, by rw [he, e1, g1, List.append_assoc], Or.inr (Or.inr ⟨q', inn, A', V, rfl, Is_mono e2 (Nat.le_max_left _ _), Is_mono g2 (Nat.le_max_right _ _), rfl, ?_⟩), g3⟩
      intro t' r'' e
      exact e5 t' (r'' ++ rest) (by rw [g1, e]; rfl)
    rcases kd_cases h1 with hk | hk | hk | hk | hk
    · rw [hk] at h3
      exact go 1 [t] r 1 1 (Or.inl ⟨t, rfl, h1, hk, rfl⟩) h3 (by omega) rfl
    · rw [hk] at h3
      have h3' : Val r 2 (op + 1) := h3
      obtain ⟨f2, inn, rest, V, g1, g2, g3⟩ := ih r 2 (op + 1) (by omega) (by omega) h3' (by
        intro t' r' e hs
        rw [e] at h3'
        have := h3'.2.1
        unfold isSuf at hs
        have hs' : Pg.isSuffix t'.kd = true := by
          simp only [Pg.isSuffix, Bool.or_eq_true, beq_iff_eq]; omega
        simp [Pg.canStand, Pg.endsPiece, Pg.isSuffix] at this
        rcases hs with h | h | h | h <;> simp [h] at this)
      rcases g3 with ⟨_, g⟩ | ⟨b, r2, rfl, k1, k2, k3, k4⟩
      · omega
      · rw [show op + 1 - 1 = op by omega] at k4
        refine go (f2 + 1) (t :: (inn ++ [b])) r2 V 3 (Or.inr (Or.inl ⟨t, inn, b, rfl, h1, hk, k1, k2, g2⟩)) k4 ?_ (by rw [g1]; simp)
        rw [g1] at hl; simp at hl; omega
    · refine ⟨1, [], t :: r, 0, rfl, Or.inl ⟨rfl, rfl⟩, Or.inr ⟨t, r, rfl, h1, hk, ?_, ?_⟩⟩
      · rw [hk] at h2; simpa [Pg.canStand] using h2
      · rw [hk] at h3; exact h3
    · rw [hk] at h3
      have h3' : Val r 4 op := h3
      obtain ⟨f2, inn, rest, V, g1, g2, g3⟩ := ih r 4 op (by omega) h0 h3' (by
        intro t' r' e hs
        rw [e] at h3'
        have := h3'.2.1
        unfold isSuf at hs
        have hs' : Pg.isSuffix t'.kd = true := by
          simp only [Pg.isSuffix, Bool.or_eq_true, beq_iff_eq]; omega
        simp [Pg.canStand, Pg.endsPiece, Pg.isSuffix] at this
        rcases hs with h | h | h | h <;> simp [h] at this)
      exact ⟨f2 + 1, t :: inn, rest, V, by rw [g1]; rfl, Or.inr (Or.inl ⟨t, inn, rfl, h1, hk, g2⟩), g3⟩
    · exact absurd hk (hns t r rfl)
end Go.Proofs.Ytoaaklhpmhjhkaa
