/-
  Plain mathematics: items of a set, and sets.
-/
import Derived.Test.YtoaaklhpmhjhkaaMathA
namespace Go.Proofs.Ytoaaklhpmhjhkaa
open Go.RowKit

theorem items_nil (u i : Nat) (fa : Int) (f : Nat → Bool) : Rf.items u [] i fa f = none := by cases u <;> rfl
theorem drop_add (l : List UInt8) (k n : Nat) : (l.drop k).drop n = l.drop (k + n) := List.drop_drop

/-- An item that begins at k, read from a mode in which a byte of a set leads to 11. -/
theorem item_cases (s : ByteArray) (k : Nat) (m b o : Int) (hm : 1 < m) (hi : ∀ c r, s.data.toList.drop k = c :: r → Rf.read m b o c.toNat = Rf.inner m b o c.toNat 11) :
    (∃ (n : Nat) (lo hi : Int), 1 ≤ n ∧ k + n ≤ s.size ∧ Pg.readItem (bat s) k = ⟨lo, hi, ((k + n : Nat) : Int), true⟩ ∧
      (∀ u fa f, Rf.items (u + 1) (s.data.toList.drop k) k fa f = Rf.items u (s.data.toList.drop (k + n)) (k + n) (if hi < lo ∧ fa < 0 then (k : Int) else fa) (Pg.withF f lo hi)) ∧
      ∃ m2 b2, steps m b o ((s.data.toList.drop k).take n) = some (m2, b2) ∧ ((m2 = 11 ∧ ∀ c r, s.data.toList.drop (k + n) = c :: r → c ≠ 45) ∨ m2 = 13)) ∨
    (∃ n : Nat, (Pg.readItem (bat s) k).ok = false ∧ (Pg.readItem (bat s) k).n = ((k + n : Nat) : Int) ∧ Rf.formFrom m b o k (s.data.toList.drop k) = ((k + n : Nat) : Int)) := by
  rcases one_cases s k with ⟨n, v, h1, h2, h3, h4, h5⟩ | ⟨n, h1, h2, h3⟩
  · obtain ⟨b1, hst⟩ := h5 m 11 b o hi
    have hkn : k + (n + 1) ≤ s.size := by
      have : (s.data.toList.drop k).length = s.size - k := by simp
      omega
    obtain ⟨c, r, hcr⟩ : ∃ c r, s.data.toList.drop k = c :: r := by
      rcases hd : s.data.toList.drop k with _ | ⟨c, r⟩
      · rw [hd] at h3; simp at h3
      · exact ⟨c, r, rfl⟩
    obtain ⟨hc93, _, _⟩ := h4 c r hcr
    have hsplit : s.data.toList.drop k = (s.data.toList.drop k).take (n + 1) ++ s.data.toList.drop (k + (n + 1)) := by
      rw [← drop_add, List.take_append_drop]
    have hlen : ((s.data.toList.drop k).take (n + 1)).length = n + 1 := by rw [List.length_take]; omega
    have hone : (Pg.readOne (bat s) k).ok = true := by rw [h1]
    have hn : (Pg.readOne (bat s) k).n = ((k + (n + 1) : Nat) : Int) := by rw [h1]
    have hv : (Pg.readOne (bat s) k).v = v := by rw [h1]
    by_cases h45 : ∃ r2, s.data.toList.drop (k + (n + 1)) = 45 :: r2
    · obtain ⟨r2, hr2⟩ := h45
      have hb45 : bat s ((k + (n + 1) : Nat) : Int) = 45 := by rw [bat_0 hr2]; rfl
      have hd1 : s.data.toList.drop (k + (n + 1) + 1) = r2 := by rw [← drop_add, hr2]; rfl
      have h12 : Rf.read 11 b1 o ((45 : UInt8).toNat : Int) = ⟨true, 12, b1, o⟩ := by rfl
      have hi2 : ∀ c r, s.data.toList.drop (k + (n + 1) + 1) = c :: r → Rf.read 12 b1 o c.toNat = Rf.inner 12 b1 o c.toNat 13 := by
        intro c r _; simp [Rf.read, Rf.rest]
      have hit : Pg.readItem (bat s) k = ⟨v, (Pg.readOne (bat s) (((k + (n + 1) + 1 : Nat)) : Int)).v, (Pg.readOne (bat s) (((k + (n + 1) + 1 : Nat)) : Int)).n, (Pg.readOne (bat s) (((k + (n + 1) + 1 : Nat)) : Int)).ok⟩ := by
        rw [Pg.readItem, if_pos hone, hn, if_pos hb45, hv]
        rw [show (((k + (n + 1) : Nat) : Int) + 1) = ((k + (n + 1) + 1 : Nat) : Int) by omega]
      rcases one_cases s (k + (n + 1) + 1) with ⟨n2, v2, g1, g2, g3, g4, g5⟩ | ⟨n2, g1, g2, g3⟩
      · left
        obtain ⟨b2, hst2⟩ := g5 12 13 b1 o hi2
        have hkn2 : k + (n + 1) + 1 + (n2 + 1) ≤ s.size := by
          have : (s.data.toList.drop (k + (n + 1) + 1)).length = s.size - (k + (n + 1) + 1) := by simp
          omega
        refine ⟨n + 1 + 1 + (n2 + 1), v, v2, by omega, by omega, ?_, fun u fa f => ?_, 13, b2, ?_, Or.inr rfl⟩
        · rw [hit, g1, show k + (n + 1) + 1 + (n2 + 1) = k + (n + 1 + 1 + (n2 + 1)) by omega]
        · rw [hcr, Rf.items]
          simp only [if_neg hc93]
          rw [← hcr, h2]
          simp only [drop_add, hr2]
          rw [if_pos trivial, ← hd1, g2]
          simp only [drop_add]
          rw [show k + (n + 1) + 1 + (n2 + 1) = k + (n + 1 + 1 + (n2 + 1)) by omega]
          rfl
        · have e1 : (s.data.toList.drop k).take (n + 1 + 1 + (n2 + 1)) = (s.data.toList.drop k).take (n + 1) ++ (45 :: (s.data.toList.drop (k + (n + 1) + 1)).take (n2 + 1)) := by
            rw [show n + 1 + 1 + (n2 + 1) = (n + 1) + (1 + (n2 + 1)) by omega, List.take_add, drop_add, hr2, hd1, show 1 + (n2 + 1) = (n2 + 1) + 1 by omega, List.take_succ_cons]
          rw [e1, steps_append _ _ _ _ _ _ hst, steps_cons _ h12 rfl rfl]
          exact hst2
      · right
        refine ⟨n + 1 + 1 + n2, by rw [hit]; exact g1, by rw [hit]; simp only [g2]; omega, ?_⟩
        rw [hsplit, steps_form _ _ _ _ _ _ _ hst, hlen, hr2, ff_ok _ h12 rfl, ← hd1, g3 12 13 b1 o (by omega) hi2]
        omega
    · left
      have hb45 : bat s ((k + (n + 1) : Nat) : Int) ≠ 45 := by
        rcases hd : s.data.toList.drop (k + (n + 1)) with _ | ⟨c2, r2⟩
        · rw [bat_0 hd]; simp [at_]
        · rw [bat_0 hd]; simp only [at_, List.getElem?_cons_zero]
          intro e
          apply h45
          have : c2 = 45 := UInt8.toNat_inj.1 (by simpa using (by omega : c2.toNat = 45))
          exact ⟨r2, by rw [hd, this]⟩
      refine ⟨n + 1, v, v, by omega, hkn, ?_, fun u fa f => ?_, 11, b1, hst, Or.inl ⟨rfl, ?_⟩⟩
      · rw [Pg.readItem, if_pos hone, hn, if_neg hb45, hv]
      · rw [hcr, Rf.items]
        simp only [if_neg hc93]
        rw [← hcr, h2]
        simp only [drop_add]
        rcases hd : s.data.toList.drop (k + (n + 1)) with _ | ⟨c2, r2⟩
        · rw [items_nil]
        · simp only
          rw [if_neg (fun e => h45 ⟨r2, by rw [hd, e]⟩), if_neg (by omega)]
          rfl
      · intro c2 r2 he e
        exact h45 ⟨r2, by rw [he, e]⟩
  · right
    refine ⟨n, ?_, ?_, h3 m 11 b o hm hi⟩
    · rw [Pg.readItem, h1]; rfl
    · rw [Pg.readItem, h1]; exact h2

theorem lt_of_drop {s : ByteArray} {k : Nat} {c : UInt8} {r : List UInt8} (h : s.data.toList.drop k = c :: r) : k < s.size := by
  rcases Nat.lt_or_ge k s.size with h' | h'
  · exact h'
  · rw [List.drop_eq_nil_of_le (by simpa using h')] at h; cases h
theorem take_split (l : List UInt8) (k n j : Nat) : (l.drop k).take (n + j) = (l.drop k).take n ++ (l.drop (k + n)).take j := by
  rw [List.take_add, List.drop_drop]

/-- The items of a set, from the place k on. -/
theorem loop_cases (s : ByteArray) (first : Nat) (o : Int) : ∀ (u k : Nat) (fa : Int) (f : Nat → Bool) (m b : Int), s.size < u + k → k ≤ s.size → -1 ≤ fa →
    ((k = first ∧ (m = 10 ∨ (m = 9 ∧ ∀ c r, s.data.toList.drop k = c :: r → c ≠ 94))) ∨ (first < k ∧ ((m = 11 ∧ ∀ c r, s.data.toList.drop k = c :: r → c ≠ 45) ∨ m = 13))) →
    (∃ (j : Nat) (F : Nat → Bool) (FA : Int), k ≤ j ∧ j < s.size ∧ Pg.setLoop (bat s) s.size first u k fa f = ⟨(j : Int) + 1, true, F, FA⟩ ∧ -1 ≤ FA ∧ (∀ v, s.size < v + k → Rf.items v (s.data.toList.drop k) k fa f = some (j, FA, F)) ∧ ∃ b', steps m b o ((s.data.toList.drop k).take (j + 1 - k)) = some (1, b')) ∨
    ((Pg.setLoop (bat s) s.size first u k fa f).ok = false ∧ Rf.formFrom m b o k (s.data.toList.drop k) = (Pg.setLoop (bat s) s.size first u k fa f).n) := by
  intro u
  induction u with
  | zero => intro k fa f m b h1 h2; omega
  | succ u ih =>
    intro k fa f m b hu hk hfa hcase
    have hm1 : 1 < m := by rcases hcase with ⟨_, h | h⟩ | ⟨_, h | h⟩ <;> omega
    rcases hd : s.data.toList.drop k with _ | ⟨c, r⟩
    · right
      have hks : k = s.size := by
        have : s.size ≤ k := by simpa using hd
        omega
      have hge : ¬ (k : Int) < (s.size : Int) := by omega
      rw [Pg.setLoop, if_neg hge]
      refine ⟨rfl, ?_⟩
      rw [ff_nil _ _ _ _ hm1, hks]
    have hlt := lt_of_drop hd
    have hlti : (k : Int) < (s.size : Int) := by omega
    have hbk : bat s (k : Int) = c.toNat := by rw [bat_0 hd]; rfl
    by_cases h93 : c = 93 ∧ first < k
    · left
      obtain ⟨rfl, hf⟩ := h93
      have hm : m = 11 ∨ m = 13 := by
        rcases hcase with ⟨h, _⟩ | ⟨_, h | h⟩
        · omega
        · exact Or.inl h.1
        · exact Or.inr h
      refine ⟨k, f, fa, Nat.le_refl _, hlt, ?_, hfa, fun v hv => ?_, b, ?_⟩
      · rw [Pg.setLoop, if_pos hlti, if_pos ⟨by rw [hbk]; rfl, by omega⟩]
      · rcases v with _ | v
        · omega
        · rfl
      · rw [show k + 1 - k = 1 by omega]
        show steps m b o [93] = _
        have hx : Rf.read m b o ((93 : UInt8).toNat : Int) = ⟨true, 1, b, o⟩ := by
          rcases hm with rfl | rfl <;> rfl
        rw [steps_cons _ hx rfl rfl]; rfl
    · have hi : ∀ c' r', s.data.toList.drop k = c' :: r' → Rf.read m b o c'.toNat = Rf.inner m b o c'.toNat 11 := by
        intro c' r' he
        rw [hd] at he
        cases he
        have ne : ∀ d : UInt8, c ≠ d → (c.toNat : Int) ≠ d.toNat := fun d h e => h (UInt8.toNat_inj.1 (by omega))
        rcases hcase with ⟨_, h | ⟨h, h2⟩⟩ | ⟨hf, ⟨h, h2⟩ | h⟩
        · subst h; simp [Rf.read, Rf.rest]
        · subst h
          have := ne 94 (h2 c r hd)
          have h' : (c.toNat : Int) ≠ 94 := this
          simp only [Rf.read, Rf.rest]
          rw [if_neg h']; simp
        · subst h
          have h1 : (c.toNat : Int) ≠ 45 := ne 45 (h2 c r hd)
          have h3 : (c.toNat : Int) ≠ 93 := ne 93 (fun e => h93 ⟨e, hf⟩)
          simp only [Rf.read, Rf.rest]
          rw [if_neg h1, if_neg h3]; simp
        · subst h
          have h3 : (c.toNat : Int) ≠ 93 := ne 93 (fun e => h93 ⟨e, hf⟩)
          simp only [Rf.read, Rf.rest]
          rw [if_neg h3]; simp
      have hno : ¬ (bat s (k : Int) = 93 ∧ (first : Int) < (k : Int)) := by
        rintro ⟨h1, h2⟩
        rw [hbk] at h1
        exact h93 ⟨UInt8.toNat_inj.1 (by simpa using (by omega : c.toNat = 93)), by omega⟩
      have hL : Pg.setLoop (bat s) s.size first (u + 1) k fa f = if (Pg.readItem (bat s) k).ok then Pg.setLoop (bat s) s.size first u (Pg.readItem (bat s) k).n (if (Pg.readItem (bat s) k).hi < (Pg.readItem (bat s) k).lo ∧ fa = -1 then (k : Int) else fa) (Pg.withF f (Pg.readItem (bat s) k).lo (Pg.readItem (bat s) k).hi) else ⟨(Pg.readItem (bat s) k).n, false, f, fa⟩ := by
        rw [Pg.setLoop, if_pos hlti, if_neg hno]
      rcases item_cases s k m b o hm1 hi with ⟨n, lo, hi', hn1, hn2, hit, hitems, m2, b2, hst, hm2⟩ | ⟨n, h1, h2, h3⟩
      · have hL2 : Pg.setLoop (bat s) s.size first (u + 1) k fa f = Pg.setLoop (bat s) s.size first u ((k + n : Nat) : Int) (if hi' < lo ∧ fa < 0 then (k : Int) else fa) (Pg.withF f lo hi') := by
          rw [hL, hit]
          simp only [if_true]
          have : (fa = -1) ↔ (fa < 0) := by omega
          simp only [this]
        have hfa' : -1 ≤ (if hi' < lo ∧ fa < 0 then (k : Int) else fa) := by split <;> omega
        have hcase2 : ((k + n = first ∧ (m2 = 10 ∨ (m2 = 9 ∧ ∀ c r, s.data.toList.drop (k + n) = c :: r → c ≠ 94))) ∨ (first < k + n ∧ ((m2 = 11 ∧ ∀ c r, s.data.toList.drop (k + n) = c :: r → c ≠ 45) ∨ m2 = 13))) := by
          right
          refine ⟨?_, hm2⟩
          rcases hcase with ⟨h, _⟩ | ⟨h, _⟩ <;> omega
        rcases ih (k + n) _ (Pg.withF f lo hi') m2 b2 (by omega) hn2 hfa' hcase2 with ⟨j, F, FA, g1, g2, g3, g4, g5, b', g6⟩ | ⟨g1, g2⟩
        · left
          refine ⟨j, F, FA, by omega, g2, by rw [hL2, g3], g4, fun v hv => ?_, b', ?_⟩
          · rcases v with _ | v
            · omega
            · rw [← hd, hitems]; exact g5 v (by omega)
          · rw [← hd, show j + 1 - k = n + (j + 1 - (k + n)) by omega, take_split, steps_append _ _ _ _ _ _ hst]
            exact g6
        · right
          refine ⟨by rw [hL2]; exact g1, ?_⟩
          have hsp : s.data.toList.drop k = (s.data.toList.drop k).take n ++ s.data.toList.drop (k + n) := by rw [← drop_add, List.take_append_drop]
          have hlen : ((s.data.toList.drop k).take n).length = n := by rw [List.length_take]; simp; omega
          rw [hL2, ← g2, ← hd]
          rw [hsp, steps_form _ _ _ _ _ _ _ hst, hlen]
      · right
        rw [hL, h1]
        refine ⟨rfl, ?_⟩
        rw [← hd]
        simp only [h2]
        exact h3

/-- A set, from outside. -/
theorem set_cases (s : ByteArray) (i : Nat) (t : List UInt8) (m b o : Int) (hm : m = 0 ∨ m = 1) (h : s.data.toList.drop i = 91 :: t) :
    (∃ (n : Nat) (F : Nat → Bool) (FA : Int), i + 2 ≤ n ∧ n ≤ s.size ∧ Pg.readSet (bat s) s.size i = ⟨(n : Int), true, F, FA⟩ ∧ Rf.set t i = some (n, FA, F) ∧ -1 ≤ FA ∧ ∃ b', steps m b o ((s.data.toList.drop i).take (n - i)) = some (1, b')) ∨
    ((Pg.readSet (bat s) s.size i).ok = false ∧ Rf.formFrom m b o i (s.data.toList.drop i) = (Pg.readSet (bat s) s.size i).n) := by
  have hlt := lt_of_drop h
  have h9 : Rf.read m b o ((91 : UInt8).toNat : Int) = ⟨true, 9, b, o⟩ := by rcases hm with rfl | rfl <;> rfl
  have hd1 : s.data.toList.drop (i + 1) = t := by rw [← drop_add, h]; rfl
  by_cases h94 : ∃ r, t = 94 :: r
  · obtain ⟨r, rfl⟩ := h94
    have hlt1 := lt_of_drop hd1
    have hd2 : s.data.toList.drop (i + 2) = r := by rw [show i + 2 = i + 1 + 1 by omega, ← drop_add, hd1]; rfl
    have hb : bat s ((i : Int) + 1) = 94 := by rw [bat_1 h]; rfl
    have h10 : Rf.read 9 b o ((94 : UInt8).toNat : Int) = ⟨true, 10, b, o⟩ := rfl
    have hrl : r.length = s.size - (i + 2) := by rw [← hd2]; simp
    have hR : Pg.readSet (bat s) s.size i = ⟨(Pg.setLoop (bat s) s.size ((i + 2 : Nat) : Int) (s.size + 1) ((i + 2 : Nat) : Int) (-1) (fun _ => false)).n, (Pg.setLoop (bat s) s.size ((i + 2 : Nat) : Int) (s.size + 1) ((i + 2 : Nat) : Int) (-1) (fun _ => false)).ok, fun k => !(Pg.setLoop (bat s) s.size ((i + 2 : Nat) : Int) (s.size + 1) ((i + 2 : Nat) : Int) (-1) (fun _ => false)).f k, (Pg.setLoop (bat s) s.size ((i + 2 : Nat) : Int) (s.size + 1) ((i + 2 : Nat) : Int) (-1) (fun _ => false)).fa⟩ := by
      rw [Pg.readSet, if_pos hb]; rfl
    rcases loop_cases s (i + 2) o (s.size + 1) (i + 2) (-1) (fun _ => false) 10 b (by omega) (by omega) (by omega) (Or.inl ⟨rfl, Or.inl rfl⟩) with ⟨j, F, FA, g1, g2, g3, g4, g5, b', g6⟩ | ⟨g1, g2⟩
    · left
      refine ⟨j + 1, fun k => !F k, FA, by omega, by omega, by rw [hR, g3]; rfl, ?_, g4, b', ?_⟩
      · have := g5 (r.length + 1) (by omega)
        rw [hd2] at this
        simp only [Rf.set, if_true, this, Option.map_some]
        simp
      · rw [show j + 1 - i = 2 + (j + 1 - (i + 2)) by omega, take_split, h]
        show steps m b o (91 :: 94 :: ((s.data.toList.drop (i + 2)).take (j + 1 - (i + 2)))) = _
        rw [steps_cons _ h9 rfl rfl, steps_cons _ h10 rfl rfl]; exact g6
    · right
      refine ⟨by rw [hR]; exact g1, ?_⟩
      rw [h, ff_ok _ h9 rfl, ff_ok _ h10 rfl, hR]
      simp only [← g2, hd2]
  · have hb : bat s ((i : Int) + 1) ≠ 94 := by
      rw [bat_1 h]
      rcases t with _ | ⟨c, r⟩
      · simp [at_]
      · simp only [at_, List.getElem?_cons_succ, List.getElem?_cons_zero]
        intro e
        exact h94 ⟨r, by rw [show c = 94 from UInt8.toNat_inj.1 (by simpa using (by omega : c.toNat = 94))]⟩
    have hR : Pg.readSet (bat s) s.size i = Pg.setLoop (bat s) s.size ((i + 1 : Nat) : Int) (s.size + 1) ((i + 1 : Nat) : Int) (-1) (fun _ => false) := by
      rw [Pg.readSet, if_neg hb]; rfl
    have hne : ∀ c r, s.data.toList.drop (i + 1) = c :: r → c ≠ 94 := by
      intro c r he e
      exact h94 ⟨r, by rw [← hd1, he, e]⟩
    rcases loop_cases s (i + 1) o (s.size + 1) (i + 1) (-1) (fun _ => false) 9 b (by omega) (by omega) (by omega) (Or.inl ⟨rfl, Or.inr ⟨rfl, hne⟩⟩) with ⟨j, F, FA, g1, g2, g3, g4, g5, b', g6⟩ | ⟨g1, g2⟩
    · left
      have hj : i + 1 < j + 1 := by
        rcases Nat.lt_or_ge (i + 1) (j + 1) with h' | h'
        · exact h'
        · omega
      refine ⟨j + 1, F, FA, by omega, by omega, by rw [hR, g3]; rfl, ?_, g4, b', ?_⟩
      · rcases t with _ | ⟨c, r⟩
        · rw [hd1] at g5
          have := g5 (s.size + 1) (by omega)
          rw [items_nil] at this; cases this
        · have hrl : (c :: r).length = s.size - (i + 1) := by rw [← hd1]; simp
          have := g5 (r.length + 2) (by simp at hrl; omega)
          rw [hd1] at this
          have hc94 : c ≠ 94 := hne c r hd1
          simp only [Rf.set, if_neg hc94, this, Option.map_some]
          simp
      · rw [show j + 1 - i = 1 + (j + 1 - (i + 1)) by omega, take_split, h]
        show steps m b o (91 :: ((s.data.toList.drop (i + 1)).take (j + 1 - (i + 1)))) = _
        rw [steps_cons _ h9 rfl rfl]; exact g6
    · right
      refine ⟨by rw [hR]; exact g1, ?_⟩
      rw [h, ff_ok _ h9 rfl, hR, ← g2, hd1]
end Go.Proofs.Ytoaaklhpmhjhkaa
