/-
  Plain mathematics: the reference's count over tokens.
-/
import Derived.Test.YtoaaklhpmhjhkaaMathG
namespace Go.Proofs.Ytoaaklhpmhjhkaa
open Go.RowKit

theorem Is_all : ∀ (f : Nat) (g : Bool) (ts : List Tk) (V : Int), Is f g ts V → ∀ t ∈ ts, TkOK t := by
  intro f
  induction f with
  | zero => intro g ts V h; exact absurd h (by simp [Is])
  | succ f ih =>
    intro g ts V h t ht
    cases g
    · unfold Is at h
      rcases h with ⟨t', rfl, h2, _, _⟩ | ⟨a, inn, b, rfl, h2, _, h4, _, h6⟩ | ⟨q, t', A, rfl, h2, h3, _, _⟩
      · rw [List.mem_singleton] at ht; subst ht; exact h2
      · simp only [List.mem_cons, List.mem_append, List.not_mem_nil, or_false] at ht
        rcases ht with rfl | ht | rfl
        · exact h2
        · exact ih _ _ _ h6 t ht
        · exact h4
      · simp only [List.mem_append, List.mem_singleton] at ht
        rcases ht with ht | rfl
        · exact ih _ _ _ h2 t ht
        · exact h3
    · unfold Is at h
      rcases h with ⟨rfl, _⟩ | ⟨t', r, rfl, h2, _, h4⟩ | ⟨p, r, A, B, rfl, h2, h3, _, _⟩
      · exact absurd ht (by simp)
      · rcases List.mem_cons.1 ht with rfl | ht
        · exact h2
        · exact ih _ _ _ h4 t ht
      · rcases List.mem_append.1 ht with ht | ht
        · exact ih _ _ _ h2 t ht
        · exact ih _ _ _ h3 t ht
def sufB (c : UInt8) : Bool := Rf.has Rf.suffixes c.toNat
theorem sufB_iff (c : UInt8) : sufB c = true ↔ (c = 42 ∨ c = 43 ∨ c = 63 ∨ c = 123) := by
  have h : ∀ d : UInt8, ((d.toNat : Int) == (c.toNat : Int)) = true ↔ c = d := by
    intro d
    rw [beq_iff_eq]
    constructor
    · intro h; exact (UInt8.toNat_inj.1 (by omega))
    · intro h; rw [h]
  simp only [sufB, Rf.has, Rf.suffixes, Bool.or_eq_true, h, Bool.false_eq_true, or_false]
/-- What a part begins with. -/
theorem tok_head {t : Tk} (h : TkOK t) : ∃ c w, t.w = c :: w ∧ (sufB c = true ↔ isSuf t) ∧ (c = 124 ↔ t.kd = 4) ∧ (c = 40 ↔ t.kd = 2) ∧ (c = 123 ↔ t.kd = 8) := by
  have fin : ∀ (c : UInt8) (w : List UInt8) (k : Int), t.w = c :: w → t.kd = k → (sufB c = true ↔ (k = 5 ∨ k = 6 ∨ k = 7 ∨ k = 8)) → (c = 124 ↔ k = 4) → (c = 40 ↔ k = 2) → (c = 123 ↔ k = 8) →
      ∃ c w, t.w = c :: w ∧ (sufB c = true ↔ isSuf t) ∧ (c = 124 ↔ t.kd = 4) ∧ (c = 40 ↔ t.kd = 2) ∧ (c = 123 ↔ t.kd = 8) := by
    intro c w k h1 h2 h3 h4 h5 h6
    refine ⟨c, w, h1, ?_, ?_, ?_, ?_⟩
    · unfold isSuf; rw [h2]; exact h3
    · rw [h2]; exact h4
    · rw [h2]; exact h5
    · rw [h2]; exact h6
  rcases h with ⟨hk, h⟩ | ⟨hk, hw⟩ | ⟨hk, hw⟩ | ⟨hk, hw⟩ | ⟨hk, hw⟩ | ⟨hk, hw⟩ | ⟨hk, hw⟩ | ⟨hk, h⟩
  · rcases h with ⟨c, hw, hs⟩ | ⟨e, v0, hw, _⟩ | ⟨e, hw, _⟩
    · unfold Special at hs
      refine fin c [] 1 hw hk ?_ ?_ ?_ ?_
      · rw [sufB_iff]
        constructor
        · intro h; exact absurd (by rcases h with h | h | h | h <;> simp [h]) hs
        · intro h; omega
      · constructor
        · intro h; exact absurd (by simp [h]) hs
        · intro h; omega
      · constructor
        · intro h; exact absurd (by simp [h]) hs
        · intro h; omega
      · constructor
        · intro h; exact absurd (by simp [h]) hs
        · intro h; omega
    · exact fin 92 e 1 hw hk (by decide) (by decide) (by decide) (by decide)
    · exact fin 91 e 1 hw hk (by decide) (by decide) (by decide) (by decide)
  · exact fin 40 [] 2 hw hk (by decide) (by decide) (by decide) (by decide)
  · exact fin 41 [] 3 hw hk (by decide) (by decide) (by decide) (by decide)
  · exact fin 124 [] 4 hw hk (by decide) (by decide) (by decide) (by decide)
  · exact fin 42 [] 5 hw hk (by decide) (by decide) (by decide) (by decide)
  · exact fin 43 [] 6 hw hk (by decide) (by decide) (by decide) (by decide)
  · exact fin 63 [] 7 hw hk (by decide) (by decide) (by decide) (by decide)
  · rcases h with ⟨x, hw, _⟩ | ⟨x, z, hw, _⟩
    · exact fin 123 _ 8 hw hk (by decide) (by decide) (by decide) (by decide)
    · exact fin 123 _ 8 hw hk (by decide) (by decide) (by decide) (by decide)
theorem close_skip {p : List UInt8} {f i : Nat} {c : UInt8} {r : List UInt8} (hd : p.drop i = c :: r) (h : c ≠ 125) : Rf.closeFrom p (f + 1) i = Rf.closeFrom p f (i + 1) := by
  rw [Rf.closeFrom, hd]; simp only [if_neg h]
theorem close_here {p : List UInt8} {f i : Nat} {r : List UInt8} (hd : p.drop i = 125 :: r) : Rf.closeFrom p (f + 1) i = some (i + 1) := by
  rw [Rf.closeFrom, hd]; simp only [if_true]
theorem len_of_drop {p : List UInt8} {i : Nat} {l : List UInt8} (hd : p.drop i = l) : l.length = p.length - i := by
  rw [← hd]; simp
theorem suf_step {t : Tk} (h : TkOK t) (hs : isSuf t) (p : List UInt8) (i : Nat) (r : List UInt8) (hd : p.drop i = t.w ++ r) : Rf.suffixed p i = some (i + t.w.length) := by
  have one : ∀ c : UInt8, c ≠ 123 → t.w = [c] → Rf.suffixed p i = some (i + t.w.length) := by
    intro c hc hw
    rw [hw] at hd ⊢
    rw [Rf.suffixed, hd]; simp only [List.cons_append, if_neg hc]; rfl
  unfold isSuf at hs
  rcases h with ⟨hk, _⟩ | ⟨hk, _⟩ | ⟨hk, _⟩ | ⟨hk, _⟩ | ⟨hk, hw⟩ | ⟨hk, hw⟩ | ⟨hk, hw⟩ | ⟨hk, h⟩
  · omega
  · omega
  · omega
  · omega
  · exact one 42 (by decide) hw
  · exact one 43 (by decide) hw
  · exact one 63 (by decide) hw
  · have dig : ∀ x : UInt8, 48 ≤ (x.toNat : Int) → (x.toNat : Int) ≤ 57 → x ≠ 125 := by
      intro x h1 h2 e
      subst e; revert h1 h2; decide
    rcases h with ⟨x, hw, x1, x2, _⟩ | ⟨x, z, hw, x1, x2, z1, z2, _⟩
    · rw [hw] at hd ⊢
      have d1 : p.drop (i + 1) = x :: 125 :: r := by rw [← drop_add, hd]; rfl
      have d2 : p.drop (i + 2) = 125 :: r := by rw [← drop_add, hd]; rfl
      have hl := len_of_drop hd
      simp at hl
      obtain ⟨v, hv⟩ : ∃ v, p.length + 1 = v + 1 + 1 + 1 := ⟨p.length - 2, by omega⟩
      rw [Rf.suffixed, hd]
      simp only [List.cons_append, if_true]
      rw [hv, close_skip hd (by decide), close_skip d1 (dig x x1 x2), close_here d2]
      rfl
    · rw [hw] at hd ⊢
      have d1 : p.drop (i + 1) = x :: 44 :: z :: 125 :: r := by rw [← drop_add, hd]; rfl
      have d2 : p.drop (i + 2) = 44 :: z :: 125 :: r := by rw [← drop_add, hd]; rfl
      have d3 : p.drop (i + 3) = z :: 125 :: r := by rw [← drop_add, hd]; rfl
      have d4 : p.drop (i + 4) = 125 :: r := by rw [← drop_add, hd]; rfl
      have hl := len_of_drop hd
      simp at hl
      obtain ⟨v, hv⟩ : ∃ v, p.length + 1 = v + 1 + 1 + 1 + 1 + 1 := ⟨p.length - 4, by omega⟩
      rw [Rf.suffixed, hd]
      simp only [List.cons_append, if_true]
      rw [hv, close_skip hd (by decide), close_skip d1 (dig x x1 x2), close_skip d2 (by decide), close_skip d3 (dig z z1 z2), close_here d4]
      rfl
def Sufs (ts : List Tk) : Prop := ∀ t ∈ ts, TkOK t ∧ isSuf t
theorem txt_len {ts : List Tk} (h : ∀ t ∈ ts, TkOK t) : ts.length ≤ (txt ts).length := by
  induction ts with
  | nil => simp
  | cons t r ih =>
    obtain ⟨c, w, hw, _⟩ := tok_head (h t (by simp))
    have := ih (fun t' ht => h t' (by simp [ht]))
    rw [txt_cons, List.length_append, hw]; simp; omega
theorem piece_sufs : ∀ (ts : List Tk), Sufs ts → ∀ (p : List UInt8) (i f : Nat) (r : List UInt8), p.drop i = txt ts ++ r → (∀ c r', r = c :: r' → sufB c = false) → ts.length < f → Rf.pieceFrom p f i = some (i + (txt ts).length) := by
  intro ts
  induction ts with
  | nil =>
    intro _ p i f r hd hr hf
    obtain ⟨f, rfl⟩ : ∃ q, f = q + 1 := ⟨f - 1, by omega⟩
    simp only [txt, List.flatMap_nil, List.nil_append, List.length_nil, Nat.add_zero] at hd ⊢
    rw [Rf.pieceFrom, hd]
    rcases r with _ | ⟨c, r'⟩
    · rfl
    · have := hr c r' rfl
      unfold sufB at this
      simp only [this]; rfl
  | cons t ts ih =>
    intro hs p i f r hd hr hf
    obtain ⟨f, rfl⟩ : ∃ q, f = q + 1 := ⟨f - 1, by omega⟩
    obtain ⟨h1, h2⟩ := hs t (by simp)
    rw [txt_cons, List.append_assoc] at hd
    obtain ⟨c, w, hw, hc, _⟩ := tok_head h1
    have hcs := hc.2 h2
    unfold sufB at hcs
    have hstep := suf_step h1 h2 p i _ hd
    have hd2 : p.drop (i + t.w.length) = txt ts ++ r := by rw [← drop_add, hd, List.drop_left]
    have hd' := hd
    rw [hw, List.cons_append] at hd'
    rw [Rf.pieceFrom, hd']
    simp only [hcs, if_true]
    rw [hstep]
    simp only
    rw [ih (fun t' ht => hs t' (by simp [ht])) p _ f r hd2 hr (by simp at hf; omega), txt_cons, List.length_append, Nat.add_assoc]
theorem split_sufs : ∀ (ts : List Tk), Sufs ts → ∀ (t : Tk), TkOK t → isSuf t → ∀ (p : List UInt8) (i cut f : Nat), p.drop i = txt ts ++ t.w → ts.length + 1 < f → Rf.splitFrom p f i cut = some (i + (txt ts).length) := by
  intro ts
  induction ts with
  | nil =>
    intro _ t h1 h2 p i cut f hd hf
    obtain ⟨f, rfl⟩ : ∃ q, f = q + 1 + 1 := ⟨f - 2, by simp at hf; omega⟩
    have hd0 : p.drop i = t.w ++ [] := by rw [hd]; simp [txt]
    have hstep := suf_step h1 h2 p i [] hd0
    have hd2 : p.drop (i + t.w.length) = [] := by rw [← drop_add, hd0, List.drop_left]
    obtain ⟨c, w, hw, _⟩ := tok_head h1
    rw [hw, List.cons_append] at hd0
    rw [Rf.splitFrom, hd0]
    simp only [hstep]
    rw [Rf.splitFrom, hd2]; rfl
  | cons t0 ts ih =>
    intro hs t h1 h2 p i cut f hd hf
    obtain ⟨f, rfl⟩ : ∃ q, f = q + 1 := ⟨f - 1, by omega⟩
    obtain ⟨g1, g2⟩ := hs t0 (by simp)
    rw [txt_cons, List.append_assoc] at hd
    have hstep := suf_step g1 g2 p i _ hd
    have hd2 : p.drop (i + t0.w.length) = txt ts ++ t.w := by rw [← drop_add, hd, List.drop_left]
    obtain ⟨c, w, hw, _⟩ := tok_head g1
    rw [hw, List.cons_append] at hd
    rw [Rf.splitFrom, hd]
    simp only [hstep]
    rw [ih (fun t' ht => hs t' (by simp [ht])) t h1 h2 p _ i f hd2 (by simp at hf; omega), txt_cons, List.length_append, Nat.add_assoc]
/-- An atom and suffixes. -/
theorem piece_parts : ∀ (f : Nat) (p : List Tk) (V : Int), Is f false p V → ∃ (base : List UInt8) (sufs : List Tk), txt p = base ++ txt sufs ∧ Sufs sufs ∧ (∃ c w, base = c :: w ∧ c ≠ 124) ∧ ∀ r, Rf.atom (base ++ r) = some base.length := by
  intro f
  induction f with
  | zero => intro p V h; exact absurd h (by simp [Is])
  | succ f ih =>
    intro p V h
    unfold Is at h
    rcases h with ⟨t, rfl, h2, h3, rfl⟩ | ⟨a, inn, b, rfl, h2, h3, h4, h5, h6⟩ | ⟨q, t, A, rfl, h2, h3, h4, _⟩
    · obtain ⟨c, w, hw, _, hc, h40, _⟩ := tok_head h2
      refine ⟨t.w, [], by simp [txt], (by intro t' ht; simp at ht), ⟨c, w, hw, fun e => by have := hc.1 e; omega⟩, fun r => ?_⟩
      have hp : IsPlaceW t.w := by
        rcases h2 with h | h | h | h | h | h | h | h
        all_goals first | (exact absurd h.1 (by omega)) | exact h.2
      rcases hp with ⟨c, hw, hs⟩ | ⟨e, v0, hw, hone⟩ | ⟨e, hw, hset⟩
      · unfold Special at hs
        rw [hw, List.cons_append, Rf.atom]
        (try simp only)
        rw [if_neg (fun e => hs (by simp [e])), if_neg (fun e => hs (by simp [e])), if_neg (fun e => hs (by simp [e]))]; rfl
      · rw [hw, List.cons_append, Rf.atom]
        simp only [if_true]
        rw [hone r]; rfl
      · obtain ⟨fa, inn, hs⟩ := hset r 0
        rw [hw, List.cons_append, Rf.atom]
        simp only
        rw [if_neg (by decide), if_pos trivial, hs]
        simp
    · have haw : a.w = [40] := by
        rcases h2 with h | h | h | h | h | h | h | h
        all_goals first | (exact absurd h.1 (by omega)) | exact h.2
      have hbw : b.w = [41] := by
        rcases h4 with h | h | h | h | h | h | h | h
        all_goals first | (exact absurd h.1 (by omega)) | exact h.2
      have ht : txt (a :: (inn ++ [b])) = 40 :: (txt inn ++ [41]) := by
        rw [txt_cons, txt_append, haw]; simp [txt, hbw]
      refine ⟨40 :: (txt inn ++ [41]), [], by rw [ht]; simp [txt], (by intro t' ht; simp at ht), ⟨40, _, rfl, by decide⟩, fun r => ?_⟩
      obtain ⟨C, c1, c2⟩ := grp f true inn V h6
      rw [List.cons_append, Rf.atom]
      simp only
      rw [if_neg (by decide), if_neg (by decide), if_pos trivial, Rf.groupFrom, List.drop_zero]
      simp only
      rw [if_neg (by decide), if_neg (by decide), if_pos trivial]
      have hlen : (txt inn ++ [41] ++ r).length = (txt inn).length + 1 + r.length := by simp; omega
      obtain ⟨v, hv⟩ : ∃ v, (txt inn ++ [41] ++ r).length + 1 = (v + 1) + C := ⟨(txt inn).length + 1 + r.length - C, by omega⟩
      have hd1 : (40 :: (txt inn ++ [41] ++ r)).drop (0 + 1) = txt inn ++ (41 :: r) := by simp
      have hd2 : (40 :: (txt inn ++ [41] ++ r)).drop (0 + 1 + (txt inn).length) = 41 :: r := by rw [← drop_add, hd1, List.drop_left]
      rw [hv, c2 _ _ (v + 1) (0 + 1) (41 :: r) (by omega) hd1, Rf.groupFrom, hd2]
      simp only
      rw [if_neg (by decide), if_neg (by decide), if_neg (by decide), if_pos trivial, if_pos (by decide)]
      simp; omega
    · obtain ⟨base, sufs, e1, e2, e3, e4⟩ := ih q A h2
      refine ⟨base, sufs ++ [t], by rw [txt_append, txt_append, e1, List.append_assoc], ?_, e3, e4⟩
      intro t' ht
      rcases List.mem_append.1 ht with ht | ht
      · exact e2 t' ht
      · rw [List.mem_singleton] at ht; subst ht; exact ⟨h3, h4⟩
theorem head_suf {r : List Tk} (h : ∀ t ∈ r, TkOK t) (hn : ∀ t r', r = t :: r' → ¬ isSuf t) : ∀ c r', txt r = c :: r' → sufB c = false := by
  intro c r' he
  rcases r with _ | ⟨t, r⟩
  · simp [txt] at he
  · obtain ⟨d, w, hw, hc, _⟩ := tok_head (h t (by simp))
    rw [txt_cons, hw, List.cons_append] at he
    injection he with he1 he2
    subst he1
    cases hb : sufB d
    · rfl
    · exact absurd (hc.1 hb) (hn t r rfl)
theorem most_count {w : List UInt8} {mo : Int} (h : IsCountW w mo) : Rf.most w = some mo := by
  have dig : ∀ x : UInt8, 48 ≤ (x.toNat : Int) → (x.toNat : Int) ≤ 57 → Rf.digit x.toNat = true := by
    intro x h1 h2; simp [Rf.digit]; omega
  rcases h with ⟨x, rfl, x1, x2, rfl⟩ | ⟨x, z, rfl, x1, x2, z1, z2, rfl⟩
  · simp [Rf.most, dig x x1 x2]
  · simp [Rf.most, dig x x1 x2, dig z z1 z2]
/-- The reference counts what the tokens have. -/
theorem counts : ∀ (f : Nat) (g : Bool) (ts : List Tk) (V : Int), Is f g ts V → ∃ G, ∀ v, Rf.cnt (v + G) g (txt ts) = some V := by
  intro f
  induction f with
  | zero => intro g ts V h; exact absurd h (by simp [Is])
  | succ f ih =>
    intro g ts V h
    have hall := Is_all _ _ _ _ h
    cases g
    · have h0 := h
      unfold Is at h
      rcases h with ⟨t, rfl, h2, h3, rfl⟩ | ⟨a, inn, b, rfl, h2, h3, h4, h5, h6⟩ | ⟨q, t, A, rfl, h2, h3, h4, rfl⟩
      · refine ⟨1, fun v => ?_⟩
        obtain ⟨base, sufs, e1, e2, e3, e4⟩ := piece_parts 1 [t] 1 (Or.inl ⟨t, rfl, h2, h3, rfl⟩)
        obtain ⟨c, w, hw, hsf, hc, h40, _⟩ := tok_head h2
        have ht : txt [t] = t.w := by simp [txt]
        have hp : IsPlaceW t.w := by
          rcases h2 with h | h | h | h | h | h | h | h
          all_goals first | (exact absurd h.1 (by omega)) | exact h.2
        have hat : Rf.atom t.w = some t.w.length := by
          rcases hp with ⟨c, hw, hs⟩ | ⟨e, v0, hw, hone⟩ | ⟨e, hw, hset⟩
          · unfold Special at hs
            rw [hw, Rf.atom]
            (try simp only)
            rw [if_neg (fun e => hs (by simp [e])), if_neg (fun e => hs (by simp [e])), if_neg (fun e => hs (by simp [e]))]; rfl
          · have := hone []
            rw [List.append_nil] at this
            rw [hw, Rf.atom]
            simp only [if_true]
            rw [this]; rfl
          · obtain ⟨fa, inn, hs⟩ := hset [] 0
            rw [List.append_nil] at hs
            rw [hw, Rf.atom]
            simp only
            rw [if_neg (by decide), if_pos trivial, hs]
            simp
        have hsp : Rf.split t.w = some t.w.length := by
          rw [Rf.split, hat]
          simp only
          rw [Rf.splitFrom, List.drop_length]
        rw [ht, Rf.cnt.eq_def]
        simp only [hsp, List.drop_length]
        rw [hw]
        simp only
        rw [if_neg (fun e => by have := h40.1 e; omega)]
      · obtain ⟨G, hG⟩ := ih true inn V h6
        have haw : a.w = [40] := by
          rcases h2 with h | h | h | h | h | h | h | h
          all_goals first | (exact absurd h.1 (by omega)) | exact h.2
        have hbw : b.w = [41] := by
          rcases h4 with h | h | h | h | h | h | h | h
          all_goals first | (exact absurd h.1 (by omega)) | exact h.2
        have ht : txt (a :: (inn ++ [b])) = 40 :: (txt inn ++ [41]) := by
          rw [txt_cons, txt_append, haw]; simp [txt, hbw]
        refine ⟨G + 1, fun v => ?_⟩
        obtain ⟨C, c1, c2⟩ := grp f true inn V h6
        have hat : Rf.atom (40 :: (txt inn ++ [41])) = some (40 :: (txt inn ++ [41])).length := by
          rw [Rf.atom]
          simp only
          rw [if_neg (by decide), if_neg (by decide), if_pos trivial, Rf.groupFrom, List.drop_zero]
          simp only
          rw [if_neg (by decide), if_neg (by decide), if_pos trivial]
          have hlen : (txt inn ++ [41]).length = (txt inn).length + 1 := by simp
          obtain ⟨v, hv⟩ : ∃ v, (txt inn ++ [41]).length + 1 = (v + 1) + C := ⟨(txt inn).length + 1 - C, by omega⟩
          have hd1 : (40 :: (txt inn ++ [41])).drop (0 + 1) = txt inn ++ [41] := by simp
          have hd2 : (40 :: (txt inn ++ [41])).drop (0 + 1 + (txt inn).length) = [41] := by rw [← drop_add, hd1, List.drop_left]
          rw [hv, c2 _ _ (v + 1) (0 + 1) [41] (by omega) hd1, Rf.groupFrom, hd2]
          simp only
          rw [if_neg (by decide), if_neg (by decide), if_neg (by decide), if_pos trivial, if_pos (by decide)]
          simp; omega
        have hsp : Rf.split (40 :: (txt inn ++ [41])) = some (40 :: (txt inn ++ [41])).length := by
          rw [Rf.split, hat]
          simp only
          rw [Rf.splitFrom, List.drop_length]
        rw [ht, show v + (G + 1) = (v + G) + 1 by omega, Rf.cnt.eq_def]
        have hx : (txt inn ++ [41]).length - 1 = (txt inn).length := by simp
        have hy : ¬ (txt inn ++ [41]).length = 0 := by simp
        simp only [hsp, List.drop_length, if_true, if_neg hy, hx, List.take_left]
        exact hG v
      · obtain ⟨G, hG⟩ := ih false q A h2
        obtain ⟨base, sufs, e1, e2, e3, e4⟩ := piece_parts f q A h2
        obtain ⟨c, w, hw, hsf, hc, h40, h123⟩ := tok_head h3
        have ht : txt (q ++ [t]) = txt q ++ t.w := by rw [txt_append]; simp [txt]
        have hl := txt_len (fun t' ht' => (e2 t' ht').1)
        have hsp : Rf.split (txt q ++ t.w) = some (txt q).length := by
          have ha : Rf.atom (txt q ++ t.w) = some base.length := by rw [e1, List.append_assoc]; exact e4 _
          rw [Rf.split, ha]
          simp only
          rw [split_sufs sufs e2 t h3 h4 _ base.length base.length _ (by rw [e1, List.append_assoc, List.drop_left]) (by rw [List.length_append, hw, e1, List.length_append, List.length_cons]; omega), e1, List.length_append]
        refine ⟨G + 1, fun v => ?_⟩
        rw [ht, show v + (G + 1) = (v + G) + 1 by omega, Rf.cnt.eq_def]
        simp only [hsp, List.drop_left, List.take_left]
        rw [hw]
        simp only
        rw [hG]
        simp only
        by_cases h8 : t.kd = 8
        · rw [if_pos (h123.2 h8), if_pos h8, ← hw, most_count (mo_nn h3 h8).2]; rfl
        · rw [if_neg (fun e => h8 (h123.1 e)), if_neg h8]
    · unfold Is at h
      rcases h with ⟨rfl, rfl⟩ | ⟨t, r, rfl, h2, h3, h4⟩ | ⟨p, r, A, B, rfl, h2, h3, rfl, h5⟩
      · exact ⟨1, fun v => rfl⟩
      · obtain ⟨G, hG⟩ := ih true r V h4
        have htw : t.w = [124] := by
          rcases h2 with h | h | h | h | h | h | h | h
          all_goals first | (exact absurd h.1 (by omega)) | exact h.2
        refine ⟨G + 1, fun v => ?_⟩
        rw [txt_cons, htw, show v + (G + 1) = (v + G) + 1 by omega, List.singleton_append, Rf.cnt]
        simp only [if_true]
        exact hG v
      · obtain ⟨Gp, hGp⟩ := ih false p A h2
        obtain ⟨Gr, hGr⟩ := ih true r B h3
        obtain ⟨base, sufs, e1, e2, ⟨c, w, hb, hc⟩, e4⟩ := piece_parts f p A h2
        have hl := txt_len (fun t' ht' => (e2 t' ht').1)
        have hpc : Rf.piece (txt p ++ txt r) = some (txt p).length := by
          have ha : Rf.atom (txt p ++ txt r) = some base.length := by rw [e1, List.append_assoc]; exact e4 _
          rw [Rf.piece, ha]
          simp only
          rw [piece_sufs sufs e2 _ base.length _ (txt r) (by rw [e1, List.append_assoc, List.drop_left]) (head_suf (fun t ht => hall t (by simp [ht])) h5) (by rw [List.length_append, e1, List.length_append]; omega), e1, List.length_append]
        refine ⟨Gp + Gr + 1, fun v => ?_⟩
        obtain ⟨l', hl'⟩ : ∃ l', txt p ++ txt r = c :: l' := ⟨_, by rw [e1, hb]; rfl⟩
        have htk : (c :: l').take (txt p).length = txt p := by rw [← hl', List.take_left]
        have hdr : (c :: l').drop (txt p).length = txt r := by rw [← hl', List.drop_left]
        rw [txt_append, hl', show v + (Gp + Gr + 1) = (v + Gp + Gr) + 1 by omega, Rf.cnt]
        (try simp only)
        rw [if_neg hc, ← hl', hpc]
        simp only
        rw [hl', htk, hdr, hGr (v + Gp), show v + Gp + Gr = (v + Gr) + Gp by omega, hGp]
end Go.Proofs.Ytoaaklhpmhjhkaa
