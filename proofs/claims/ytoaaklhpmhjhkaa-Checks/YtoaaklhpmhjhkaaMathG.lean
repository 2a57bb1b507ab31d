/-
  Plain mathematics: the program's count over a pattern; the reference's groups and suffixes.
-/
import Derived.Test.YtoaaklhpmhjhkaaMathF
namespace Go.Proofs.Ytoaaklhpmhjhkaa
open Go.RowKit

def ptOf (t : Tk) : Pg.Pt := ⟨t.kd, 0, fun _ => false, 0, t.mo, 0⟩
theorem capped_eq (n : Int) : Pg.capped n = if 96 < n then 97 else n := rfl
theorem capped_add {a b : Int} (_ha : 0 ≤ a) (hb : 0 ≤ b) : Pg.capped (Pg.capped a + b) = Pg.capped (a + b) := by
  simp only [capped_eq]; repeat' split
  all_goals omega
theorem capped_mul {a m : Int} (_ha : 0 ≤ a) (hm : 0 ≤ m) : Pg.capped (Pg.capped a * m) = Pg.capped (a * m) := by
  by_cases h : 96 < a
  · rw [capped_eq a, if_pos h]
    by_cases h0 : m = 0
    · subst h0; simp
    · have h1 : 97 * 1 ≤ 97 * m := Int.mul_le_mul_of_nonneg_left (by omega) (by omega)
      have h2 : 97 * m ≤ a * m := Int.mul_le_mul_of_nonneg_right (by omega) hm
      rw [capped_eq, capped_eq, if_pos (by omega), if_pos (by omega)]
  · rw [capped_eq a, if_neg h]
theorem capped_nn {a : Int} (ha : 0 ≤ a) : 0 ≤ Pg.capped a := (Pg.capped_le a ha).1
theorem mo_nn {t : Tk} (h : TkOK t) (h8 : t.kd = 8) : 0 ≤ t.mo ∧ IsCountW t.w t.mo := by
  have hc : IsCountW t.w t.mo := by
    rcases h with h | h | h | h | h | h | h | h
    all_goals first | (exact absurd h.1 (by omega)) | exact h.2
  refine ⟨?_, hc⟩
  rcases hc with ⟨x, _, h1, h2, h3⟩ | ⟨x, z, _, _, _, h1, h2, h3⟩ <;> omega
theorem cRun_append (a b : List Pg.Pt) : ∀ c, Pg.cRun (a ++ b) c = Pg.cRun b (Pg.cRun a c) := by
  induction a with
  | nil => intro c; rfl
  | cons p r ih => intro c; simp only [List.cons_append, Pg.cRun]; exact ih _
theorem machine : ∀ (f : Nat) (g : Bool) (ts : List Tk) (V : Int), Is f g ts V → 0 ≤ V ∧
    (g = false → ∀ c : Pg.C, 0 ≤ c.ah → 0 ≤ c.la → Pg.cRun (ts.map ptOf) c = ⟨Pg.capped (c.ah + c.la), Pg.capped V, c.st⟩) ∧
    (g = true → ∀ c : Pg.C, 0 ≤ c.ah → 0 ≤ c.la → ∃ ah la, Pg.cRun (ts.map ptOf) c = ⟨ah, la, c.st⟩ ∧ 0 ≤ ah ∧ 0 ≤ la ∧ Pg.capped (ah + la) = Pg.capped (c.ah + c.la + V)) := by
  intro f
  induction f with
  | zero => intro g ts V h; exact absurd h (by simp [Is])
  | succ f ih =>
    intro g ts V h
    cases g
    · unfold Is at h
      rcases h with ⟨t, rfl, h2, h3, rfl⟩ | ⟨a, inn, b, rfl, h2, h3, h4, h5, h6⟩ | ⟨q, t, A, rfl, h2, h3, h4, rfl⟩
      · refine ⟨by omega, fun _ c h1 h2 => ?_, fun h => by cases h⟩
        simp only [List.map_cons, List.map_nil, Pg.cRun, Pg.cStep, ptOf, h3, if_true]
        rfl
      · obtain ⟨hV, _, hT⟩ := ih true inn V h6
        refine ⟨hV, fun _ c c1 c2 => ?_, fun h => by cases h⟩
        obtain ⟨ah, la, e1, e2, e3, e4⟩ := hT rfl ⟨0, 0, Pg.capped (c.ah + c.la) :: c.st⟩ (by simp) (by simp)
        simp only [List.map_cons, List.map_append, List.map_nil, Pg.cRun]
        have s1 : Pg.cStep c (ptOf a) = ⟨0, 0, Pg.capped (c.ah + c.la) :: c.st⟩ := by simp [Pg.cStep, ptOf, h3]
        rw [s1, cRun_append, e1]
        simp only [Pg.cRun]
        have s2 : Pg.cStep ⟨ah, la, Pg.capped (c.ah + c.la) :: c.st⟩ (ptOf b) = ⟨Pg.capped (c.ah + c.la), Pg.capped (ah + la), c.st⟩ := by simp [Pg.cStep, ptOf, h5]
        rw [s2, e4]
        simp
      · obtain ⟨hA, hF, _⟩ := ih false q A h2
        have hV : 0 ≤ (if t.kd = 8 then A * t.mo else A) := by
          split
          · rename_i h8; exact Int.mul_nonneg hA (mo_nn h3 h8).1
          · exact hA
        refine ⟨hV, fun _ c c1 c2 => ?_, fun h => by cases h⟩
        rw [List.map_append, cRun_append, hF rfl c c1 c2]
        simp only [List.map_cons, List.map_nil, Pg.cRun]
        by_cases h8 : t.kd = 8
        · rw [if_pos h8]
          simp only [Pg.cStep, ptOf, h8]
          rw [if_neg (by decide), if_neg (by decide), if_neg (by decide), if_neg (by decide), if_pos trivial, capped_mul hA (mo_nn h3 h8).1]
        · rw [if_neg h8]
          unfold isSuf at h4
          unfold Pg.cStep
          rw [if_neg (show ¬ (ptOf t).kd = 1 by simp only [ptOf]; omega), if_neg (show ¬ (ptOf t).kd = 2 by simp only [ptOf]; omega), if_neg (show ¬ (ptOf t).kd = 3 by simp only [ptOf]; omega), if_neg (show ¬ (ptOf t).kd = 4 by simp only [ptOf]; omega), if_neg (show ¬ (ptOf t).kd = 8 from h8)]
    · unfold Is at h
      rcases h with ⟨rfl, rfl⟩ | ⟨t, r, rfl, h2, h3, h4⟩ | ⟨p, r, A, B, rfl, h2, h3, rfl, h5⟩
      · refine ⟨by omega, (fun h => by cases h), fun _ c c1 c2 => ⟨c.ah, c.la, rfl, c1, c2, by simp⟩⟩
      · obtain ⟨hV, _, hT⟩ := ih true r V h4
        refine ⟨hV, (fun h => by cases h), fun _ c c1 c2 => ?_⟩
        obtain ⟨ah, la, e1, e2, e3, e4⟩ := hT rfl ⟨Pg.capped (c.ah + c.la), 0, c.st⟩ (capped_nn (by omega)) (by simp)
        refine ⟨ah, la, ?_, e2, e3, ?_⟩
        · simp only [List.map_cons, Pg.cRun]
          have s1 : Pg.cStep c (ptOf t) = ⟨Pg.capped (c.ah + c.la), 0, c.st⟩ := by simp [Pg.cStep, ptOf, h3]
          rw [s1, e1]
        · rw [e4]
          simp only [Int.add_zero]
          exact capped_add (by omega) hV
      · obtain ⟨hA, hF, _⟩ := ih false p A h2
        obtain ⟨hB, _, hT⟩ := ih true r B h3
        refine ⟨by omega, (fun h => by cases h), fun _ c c1 c2 => ?_⟩
        obtain ⟨ah, la, e1, e2, e3, e4⟩ := hT rfl ⟨Pg.capped (c.ah + c.la), Pg.capped A, c.st⟩ (capped_nn (by omega)) (capped_nn hA)
        refine ⟨ah, la, by rw [List.map_append, cRun_append, hF rfl c c1 c2, e1], e2, e3, ?_⟩
        rw [e4]
        simp only
        have k1 := capped_add (a := c.ah + c.la) (b := Pg.capped A + B) (by omega) (by have := capped_nn hA; omega)
        have k2 := capped_add (a := A) (b := c.ah + c.la + B) hA (by omega)
        rw [show Pg.capped (c.ah + c.la) + Pg.capped A + B = Pg.capped (c.ah + c.la) + (Pg.capped A + B) by omega, k1, show c.ah + c.la + (Pg.capped A + B) = Pg.capped A + (c.ah + c.la + B) by omega, k2]
        congr 1; omega

/-- One part within a group. -/
theorem grp_tok {t : Tk} (h : TkOK t) (h3 : t.kd ≠ 3) : ∃ C, C ≤ t.w.length ∧ 1 ≤ t.w.length ∧ ∀ (p : List UInt8) (i v : Nat) (o : Int) (r : List UInt8), p.drop i = t.w ++ r → Rf.groupFrom p (v + C) i o = Rf.groupFrom p v (i + t.w.length) (Pg.opens t.kd o) := by
  have one : ∀ (c : UInt8) (p : List UInt8) (i v : Nat) (o : Int) (r : List UInt8), c ≠ 92 → c ≠ 91 → c ≠ 40 → c ≠ 41 → p.drop i = c :: r → Rf.groupFrom p (v + 1) i o = Rf.groupFrom p v (i + 1) o := by
    intro c p i v o r n1 n2 n3 n4 hd
    rw [Rf.groupFrom, hd]; simp only [if_neg n1, if_neg n2, if_neg n3, if_neg n4]
  rcases h with ⟨hk, h⟩ | ⟨hk, hw⟩ | ⟨hk, hw⟩ | ⟨hk, hw⟩ | ⟨hk, hw⟩ | ⟨hk, hw⟩ | ⟨hk, hw⟩ | ⟨hk, h⟩
  · have ho : ∀ o, Pg.opens t.kd o = o := fun o => by simp [Pg.opens, hk]
    rcases h with ⟨c, hw, hs⟩ | ⟨e, v0, hw, hone⟩ | ⟨e, hw, hset⟩
    · refine ⟨1, by simp [hw], by simp [hw], fun p i v o r hd => ?_⟩
      rw [ho, hw]
      rw [hw] at hd
      unfold Special at hs
      exact one c p i v o r (fun e => hs (by simp [e])) (fun e => hs (by simp [e])) (fun e => hs (by simp [e])) (fun e => hs (by simp [e])) hd
    · refine ⟨1, by simp [hw], by simp [hw], fun p i v o r hd => ?_⟩
      rw [ho, hw]
      rw [hw] at hd
      rw [Rf.groupFrom, hd]
      simp only [List.cons_append]
      rw [if_pos trivial, hone r]
      rfl
    · refine ⟨1, by simp [hw], by simp [hw], fun p i v o r hd => ?_⟩
      rw [ho, hw]
      rw [hw] at hd
      obtain ⟨fa, inn, hs⟩ := hset r i
      rw [Rf.groupFrom, hd]
      simp only [List.cons_append]
      rw [if_neg (by decide), if_pos trivial, hs]
      rfl
  · refine ⟨1, by simp [hw], by simp [hw], fun p i v o r hd => ?_⟩
    rw [hw] at hd
    rw [Rf.groupFrom, hd, hw]
    simp [Pg.opens, hk]
  · exact absurd hk h3
  · refine ⟨1, by simp [hw], by simp [hw], fun p i v o r hd => ?_⟩
    rw [hw] at hd
    rw [show Pg.opens t.kd o = o by simp [Pg.opens, hk], hw]
    exact one 124 p i v o r (by decide) (by decide) (by decide) (by decide) hd
  · refine ⟨1, by simp [hw], by simp [hw], fun p i v o r hd => ?_⟩
    rw [hw] at hd
    rw [show Pg.opens t.kd o = o by simp [Pg.opens, hk], hw]
    exact one 42 p i v o r (by decide) (by decide) (by decide) (by decide) hd
  · refine ⟨1, by simp [hw], by simp [hw], fun p i v o r hd => ?_⟩
    rw [hw] at hd
    rw [show Pg.opens t.kd o = o by simp [Pg.opens, hk], hw]
    exact one 43 p i v o r (by decide) (by decide) (by decide) (by decide) hd
  · refine ⟨1, by simp [hw], by simp [hw], fun p i v o r hd => ?_⟩
    rw [hw] at hd
    rw [show Pg.opens t.kd o = o by simp [Pg.opens, hk], hw]
    exact one 63 p i v o r (by decide) (by decide) (by decide) (by decide) hd
  · have ho : ∀ o, Pg.opens t.kd o = o := fun o => by simp [Pg.opens, hk]
    have dig : ∀ x : UInt8, 48 ≤ (x.toNat : Int) → (x.toNat : Int) ≤ 57 → x ≠ 92 ∧ x ≠ 91 ∧ x ≠ 40 ∧ x ≠ 41 := by
      intro x h1 h2
      refine ⟨?_, ?_, ?_, ?_⟩ <;> (intro e; subst e; revert h1 h2; decide)
    rcases h with ⟨x, hw, x1, x2, _⟩ | ⟨x, z, hw, x1, x2, z1, z2, _⟩
    · refine ⟨3, by simp [hw], by simp [hw], fun p i v o r hd => ?_⟩
      rw [hw] at hd
      obtain ⟨q1, q2, q3, q4⟩ := dig x x1 x2
      have d1 : p.drop (i + 1) = x :: 125 :: r := by rw [← drop_add, hd]; rfl
      have d2 : p.drop (i + 2) = 125 :: r := by rw [← drop_add, hd]; rfl
      rw [ho, hw, show v + 3 = v + 2 + 1 by omega, one 123 p i _ o _ (by decide) (by decide) (by decide) (by decide) hd, show v + 2 = v + 1 + 1 by omega, one x p _ _ o _ q1 q2 q3 q4 d1, one 125 p _ _ o _ (by decide) (by decide) (by decide) (by decide) d2]
      rfl
    · refine ⟨5, by simp [hw], by simp [hw], fun p i v o r hd => ?_⟩
      rw [hw] at hd
      obtain ⟨q1, q2, q3, q4⟩ := dig x x1 x2
      obtain ⟨p1, p2, p3, p4⟩ := dig z z1 z2
      have d1 : p.drop (i + 1) = x :: 44 :: z :: 125 :: r := by rw [← drop_add, hd]; rfl
      have d2 : p.drop (i + 2) = 44 :: z :: 125 :: r := by rw [← drop_add, hd]; rfl
      have d3 : p.drop (i + 3) = z :: 125 :: r := by rw [← drop_add, hd]; rfl
      have d4 : p.drop (i + 4) = 125 :: r := by rw [← drop_add, hd]; rfl
      rw [ho, hw, show v + 5 = v + 4 + 1 by omega, one 123 p i _ o _ (by decide) (by decide) (by decide) (by decide) hd, show v + 4 = v + 3 + 1 by omega, one x p _ _ o _ q1 q2 q3 q4 d1, show v + 3 = v + 2 + 1 by omega, one 44 p _ _ o _ (by decide) (by decide) (by decide) (by decide) d2, show v + 2 = v + 1 + 1 by omega, one z p _ _ o _ p1 p2 p3 p4 d3, one 125 p _ _ o _ (by decide) (by decide) (by decide) (by decide) d4]
      rfl
/-- A pattern or a piece within a group. -/
theorem grp : ∀ (f : Nat) (g : Bool) (ts : List Tk) (V : Int), Is f g ts V → ∃ C, C ≤ (txt ts).length ∧ ∀ (p : List UInt8) (i v : Nat) (o : Int) (r : List UInt8), 1 ≤ o → p.drop i = txt ts ++ r → Rf.groupFrom p (v + C) i o = Rf.groupFrom p v (i + (txt ts).length) o := by
  intro f
  induction f with
  | zero => intro g ts V h; exact absurd h (by simp [Is])
  | succ f ih =>
    have chain : ∀ (a b : List UInt8) (Ca Cb : Nat), (∀ (p : List UInt8) (i v : Nat) (o : Int) (r : List UInt8), 1 ≤ o → p.drop i = a ++ r → Rf.groupFrom p (v + Ca) i o = Rf.groupFrom p v (i + a.length) o) →
        (∀ (p : List UInt8) (i v : Nat) (o : Int) (r : List UInt8), 1 ≤ o → p.drop i = b ++ r → Rf.groupFrom p (v + Cb) i o = Rf.groupFrom p v (i + b.length) o) →
        ∀ (p : List UInt8) (i v : Nat) (o : Int) (r : List UInt8), 1 ≤ o → p.drop i = (a ++ b) ++ r → Rf.groupFrom p (v + (Ca + Cb)) i o = Rf.groupFrom p v (i + (a ++ b).length) o := by
      intro a b Ca Cb ha hb p i v o r ho hd
      rw [show v + (Ca + Cb) = (v + Cb) + Ca by omega, ha p i (v + Cb) o (b ++ r) ho (by rw [hd, List.append_assoc]), hb p (i + a.length) v o r ho (by rw [← drop_add, hd, List.append_assoc, List.drop_left])]
      rw [List.length_append, Nat.add_assoc]
    intro g ts V h
    cases g
    · unfold Is at h
      rcases h with ⟨t, rfl, h2, h3, _⟩ | ⟨a, inn, b, rfl, h2, h3, h4, h5, h6⟩ | ⟨q, t, A, rfl, h2, h3, h4, _⟩
      · obtain ⟨C, c1, c2, c3⟩ := grp_tok h2 (by omega)
        refine ⟨C, by simpa [txt] using c1, fun p i v o r ho hd => ?_⟩
        have := c3 p i v o r (by simpa [txt] using hd)
        rw [this, show Pg.opens t.kd o = o by simp [Pg.opens, h3]]
        simp [txt]
      · obtain ⟨Ca, a1, a2, a3⟩ := grp_tok h2 (by omega)
        obtain ⟨Ci, i1, i2⟩ := ih true inn V h6
        have hbw : b.w = [41] := by
          rcases h4 with h | h | h | h | h | h | h | h
          all_goals first | (exact absurd h.1 (by omega)) | exact h.2
        refine ⟨Ca + Ci + 1, by simp [txt, hbw] at *; omega, fun p i v o r ho hd => ?_⟩
        have hd' : p.drop i = a.w ++ (txt inn ++ (41 :: r)) := by
          rw [hd, txt_cons, txt_append]; simp [txt, hbw]
        have hd2 : p.drop (i + a.w.length) = txt inn ++ (41 :: r) := by rw [← drop_add, hd', List.drop_left]
        have hd3 : p.drop (i + a.w.length + (txt inn).length) = 41 :: r := by rw [← drop_add, hd2, List.drop_left]
        rw [show v + (Ca + Ci + 1) = (v + 1 + Ci) + Ca by omega, a3 p i _ o _ hd', show Pg.opens a.kd o = o + 1 by simp [Pg.opens, h3], i2 p _ _ (o + 1) _ (by omega) hd2, Rf.groupFrom, hd3]
        simp only
        rw [if_neg (by decide), if_neg (by decide), if_neg (by decide), if_pos trivial, if_neg (by omega), show o + 1 - 1 = o by omega]
        congr 1
        rw [txt_cons, txt_append]; simp [txt, hbw]; omega
      · obtain ⟨Cq, q1, q2⟩ := ih false q A h2
        obtain ⟨C, c1, c2, c3⟩ := grp_tok h3 (by unfold isSuf at h4; omega)
        refine ⟨Cq + C, by rw [txt_append]; simp [txt] at *; omega, fun p i v o r ho hd => ?_⟩
        rw [txt_append] at hd ⊢
        refine chain (txt q) (txt [t]) Cq C q2 ?_ p i v o r ho hd
        intro p i v o r ho hd
        have := c3 p i v o r (by simpa [txt] using hd)
        rw [this, opens_suf h4]; simp [txt]
    · unfold Is at h
      rcases h with ⟨rfl, _⟩ | ⟨t, r0, rfl, h2, h3, h4⟩ | ⟨p0, r0, A, B, rfl, h2, h3, _, h5⟩
      · exact ⟨0, by simp, fun p i v o r ho hd => by simp [txt]⟩
      · obtain ⟨C, c1, c2, c3⟩ := grp_tok h2 (by omega)
        obtain ⟨Cr, r1, r2⟩ := ih true r0 V h4
        refine ⟨C + Cr, by rw [txt_cons, List.length_append]; omega, fun p i v o r ho hd => ?_⟩
        rw [txt_cons] at hd ⊢
        refine chain t.w (txt r0) C Cr ?_ r2 p i v o r ho hd
        intro p i v o r ho hd
        rw [c3 p i v o r hd, show Pg.opens t.kd o = o by simp [Pg.opens, h3]]
      · obtain ⟨Cp, p1, p2⟩ := ih false p0 A h2
        obtain ⟨Cr, r1, r2⟩ := ih true r0 B h3
        refine ⟨Cp + Cr, by rw [txt_append, List.length_append]; omega, fun p i v o r ho hd => ?_⟩
        rw [txt_append] at hd ⊢
        exact chain (txt p0) (txt r0) Cp Cr p2 r2 p i v o r ho hd
end Go.Proofs.Ytoaaklhpmhjhkaa
