/-
  How rows are packed into cells: mathematics alone.
-/
import Derived.Test.YtoaaklhpmhjhkaaPlain
namespace Go.Proofs.Ytoaaklhpmhjhkaa
namespace Pk

/-- Where a class leads from a state; from none it leads nowhere. -/
def ld (nx : Nat → Int) (n : Nat) (s : Int) (c : Nat) : Int := if s = -1 then -1 else nx (s.toNat * n + c)
theorem ld_none (nx : Nat → Int) (n c : Nat) : ld nx n (-1) c = -1 := if_pos rfl
theorem ld_nat (nx : Nat → Int) (n s c : Nat) : ld nx n (s : Int) c = nx (s * n + c) := by
  rw [ld, if_neg (by omega), Int.toNat_natCast]
/-- Of the first k classes those that lead elsewhere from s than from d. -/
def dif (nx : Nat → Int) (n : Nat) (s d : Int) : Nat → List Nat
  | 0 => []
  | k + 1 => if ld nx n s k = ld nx n d k then dif nx n s d k else dif nx n s d k ++ [k]
theorem dif_mem {nx : Nat → Int} {n : Nat} {s d : Int} {c : Nat} : ∀ {k : Nat}, c ∈ dif nx n s d k ↔ c < k ∧ ld nx n s c ≠ ld nx n d c
  | 0 => by simp [dif]
  | k + 1 => by
    rw [dif]
    split
    · rename_i h
      rw [dif_mem]
      constructor
      · rintro ⟨h1, h2⟩; exact ⟨by omega, h2⟩
      · rintro ⟨h1, h2⟩
        refine ⟨?_, h2⟩
        by_cases e : c = k
        · subst e; exact absurd h h2
        · omega
    · rename_i h
      rw [List.mem_append, dif_mem, List.mem_singleton]
      constructor
      · rintro (⟨h1, h2⟩ | rfl)
        · exact ⟨by omega, h2⟩
        · exact ⟨by omega, h⟩
      · rintro ⟨h1, h2⟩
        by_cases e : c = k
        · exact Or.inr e
        · exact Or.inl ⟨by omega, h2⟩
theorem dif_len (nx : Nat → Int) (n : Nat) (s d : Int) : ∀ k : Nat, (dif nx n s d k).length ≤ k
  | 0 => by simp [dif]
  | k + 1 => by
    rw [dif]
    have := dif_len nx n s d k
    split
    · omega
    · simp; omega
theorem dif_eq {nx : Nat → Int} {n : Nat} {s d : Int} {k : Nat} (h : ld nx n s k = ld nx n d k) : dif nx n s d (k + 1) = dif nx n s d k := by rw [dif, if_pos h]
theorem dif_ne {nx : Nat → Int} {n : Nat} {s d : Int} {k : Nat} (h : ¬ ld nx n s k = ld nx n d k) : dif nx n s d (k + 1) = dif nx n s d k ++ [k] := by rw [dif, if_neg h]
/-- On which of the first d states s falls back, and which classes are then its own. -/
def near (nx : Nat → Int) (n s : Nat) : Nat → Int × List Nat
  | 0 => (-1, dif nx n s (-1) n)
  | d + 1 => if (dif nx n s d n).length < (near nx n s d).2.length then ((d : Int), dif nx n s d n) else near nx n s d
theorem near_lt {nx : Nat → Int} {n s d : Nat} (h : (dif nx n s d n).length < (near nx n s d).2.length) : near nx n s (d + 1) = ((d : Int), dif nx n s d n) := by rw [near, if_pos h]
theorem near_ge {nx : Nat → Int} {n s d : Nat} (h : ¬ (dif nx n s d n).length < (near nx n s d).2.length) : near nx n s (d + 1) = near nx n s d := by rw [near, if_neg h]
theorem near_own (nx : Nat → Int) (n s : Nat) : ∀ d, (near nx n s d).2 = dif nx n s (near nx n s d).1 n
  | 0 => rfl
  | d + 1 => by
    by_cases h : (dif nx n s d n).length < (near nx n s d).2.length
    · rw [near_lt h]
    · rw [near_ge h]; exact near_own nx n s d
theorem near_def (nx : Nat → Int) (n s : Nat) : ∀ d, -1 ≤ (near nx n s d).1 ∧ (near nx n s d).1 < d
  | 0 => by simp [near]
  | d + 1 => by
    have := near_def nx n s d
    by_cases h : (dif nx n s d n).length < (near nx n s d).2.length
    · rw [near_lt h]; simp only; omega
    · rw [near_ge h]; omega
/-- The Def of a state; the classes that are its own. -/
def df (nx : Nat → Int) (n s : Nat) : Int := (near nx n s s).1
def own (nx : Nat → Int) (n s : Nat) : List Nat := (near nx n s s).2
theorem df_bd (nx : Nat → Int) (n s : Nat) : -1 ≤ df nx n s ∧ df nx n s < s := near_def nx n s s
theorem own_lt {nx : Nat → Int} {n s c : Nat} (h : c ∈ own nx n s) : c < n := by
  unfold own at h; rw [near_own] at h; exact (dif_mem.1 h).1
theorem own_not {nx : Nat → Int} {n s c : Nat} (hc : c < n) (h : c ∉ own nx n s) : ld nx n s c = ld nx n (df nx n s) c := by
  unfold own at h
  rw [near_own, dif_mem] at h
  by_cases e : ld nx n s c = ld nx n (df nx n s) c
  · exact e
  · exact absurd ⟨hc, e⟩ h
/-- The cells of these classes are empty. -/
def fr (ck : List Int) (b : Nat) (l : List Nat) : Bool := l.all fun c => ck.getD (b + c) (-1) == -1
theorem fr_iff {ck : List Int} {b : Nat} {l : List Nat} : fr ck b l = true ↔ ∀ c ∈ l, ck.getD (b + c) (-1) = -1 := by
  unfold fr; rw [List.all_eq_true]; simp
theorem fr_len (ck : List Int) (l : List Nat) : fr ck ck.length l = true := by
  rw [fr_iff]; intro c _; rw [List.getD_eq_getElem?_getD, List.getElem?_eq_none (by omega)]; rfl
def lf (p : Nat → Bool) : Nat → Nat → Nat
  | 0, b => b
  | u + 1, b => if p b then b else lf p u (b + 1)
theorem lf_spec (p : Nat → Bool) : ∀ (u b : Nat), p (b + u) = true → p (lf p u b) = true ∧ lf p u b ≤ b + u ∧ ∀ i, b ≤ i → i < lf p u b → p i = false
  | 0, b, h => ⟨by simpa [lf] using h, by simp [lf], fun i h1 h2 => by simp only [lf] at h2; omega⟩
  | u + 1, b, h => by
    rw [lf]
    by_cases e : p b = true
    · rw [if_pos e]; exact ⟨e, by omega, fun i h1 h2 => by omega⟩
    · rw [if_neg e]
      obtain ⟨h1, h2, h3⟩ := lf_spec p u (b + 1) (by rw [show b + 1 + u = b + (u + 1) by omega]; exact h)
      refine ⟨h1, by omega, fun i hi hl => ?_⟩
      by_cases e2 : i = b
      · subst e2; simpa using e
      · exact h3 i (by omega) hl
/-- The least base by which the cells of these classes are empty. -/
def bas (ck : List Int) (l : List Nat) : Nat := lf (fun b => fr ck b l) ck.length 0
theorem bas_spec (ck : List Int) (l : List Nat) : fr ck (bas ck l) l = true ∧ bas ck l ≤ ck.length ∧ ∀ i, i < bas ck l → fr ck i l = false := by
  obtain ⟨h1, h2, h3⟩ := lf_spec (fun b => fr ck b l) ck.length 0 (by rw [Nat.zero_add]; exact fr_len ck l)
  exact ⟨h1, by rw [Nat.zero_add] at h2; exact h2, fun i hi => h3 i (by omega) hi⟩
theorem bas_eq {ck : List Int} {l : List Nat} {b : Nat} (h : fr ck b l = true) (h' : ∀ i, i < b → fr ck i l = false) : bas ck l = b := by
  obtain ⟨h1, _, h3⟩ := bas_spec ck l
  rcases Nat.lt_trichotomy (bas ck l) b with h4 | h4 | h4
  · rw [h' _ h4] at h1; cases h1
  · exact h4
  · rw [h3 _ h4] at h; cases h
/-- A list, made long enough, with v at k. -/
def put (l : List Int) (k : Nat) (v : Int) : List Int := (l ++ List.replicate (k + 1 - l.length) (-1)).set k v
theorem put_len (l : List Int) (k : Nat) (v : Int) : (put l k v).length = max l.length (k + 1) := by
  unfold put; simp; omega
theorem put_at (l : List Int) (k : Nat) (v : Int) (i : Nat) : (put l k v).getD i (-1) = if i = k then v else l.getD i (-1) := by
  unfold put
  rw [List.getD_eq_getElem?_getD, List.getD_eq_getElem?_getD, List.getElem?_set]
  by_cases e : k = i
  · subst e
    rw [if_pos rfl, if_pos rfl, if_pos (by simp; omega)]; rfl
  · rw [if_neg e, if_neg (fun h => e h.symm)]
    by_cases h : i < l.length
    · rw [List.getElem?_append_left h]
    · rw [List.getElem?_append_right (by omega), List.getElem?_eq_none (l := l) (by omega), List.getElem?_replicate]
      split <;> rfl
/-- The cells of a state are laid. -/
def lay (nx : Nat → Int) (n s b : Nat) : List Nat → List Int × List Int → List Int × List Int
  | [], p => p
  | c :: r, p => lay nx n s b r (put p.1 (b + c) s, put p.2 (b + c) (ld nx n s c))
theorem lay_append (nx : Nat → Int) (n s b : Nat) : ∀ (l r : List Nat) (p : List Int × List Int), lay nx n s b (l ++ r) p = lay nx n s b r (lay nx n s b l p)
  | [], _, _ => rfl
  | c :: l, r, p => by rw [List.cons_append, lay, lay_append nx n s b l, lay]
theorem lay_at (nx : Nat → Int) (n s b : Nat) : ∀ (l : List Nat) (p : List Int × List Int) (i : Nat),
    ((∃ c ∈ l, i = b + c ∧ (lay nx n s b l p).1.getD i (-1) = s ∧ (lay nx n s b l p).2.getD i (-1) = ld nx n s c)) ∨
    ((∀ c ∈ l, i ≠ b + c) ∧ (lay nx n s b l p).1.getD i (-1) = p.1.getD i (-1) ∧ (lay nx n s b l p).2.getD i (-1) = p.2.getD i (-1))
  | [], p, i => Or.inr ⟨by simp, rfl, rfl⟩
  | c :: r, p, i => by
    rw [lay]
    rcases lay_at nx n s b r (put p.1 (b + c) s, put p.2 (b + c) (ld nx n s c)) i with ⟨c', h1, h2⟩ | ⟨h1, h2, h3⟩
    · exact Or.inl ⟨c', List.mem_cons_of_mem _ h1, h2⟩
    · rw [h2, h3, put_at, put_at]
      by_cases e : i = b + c
      · left; exact ⟨c, List.mem_cons_self, e, if_pos e, if_pos e⟩
      · right
        refine ⟨fun c' hc' => ?_, if_neg e, if_neg e⟩
        rcases List.mem_cons.1 hc' with rfl | h
        · exact e
        · exact h1 c' h
theorem lay_len (nx : Nat → Int) (n s b : Nat) : ∀ (l : List Nat) (p : List Int × List Int), p.1.length = p.2.length → (∀ c ∈ l, c < n) →
    (lay nx n s b l p).1.length = (lay nx n s b l p).2.length ∧ p.1.length ≤ (lay nx n s b l p).1.length ∧ (lay nx n s b l p).1.length ≤ max p.1.length (b + n)
  | [], p, h, _ => ⟨h, Nat.le_refl _, by rw [lay]; omega⟩
  | c :: r, p, h, hl => by
    rw [lay]
    have hc := hl c List.mem_cons_self
    obtain ⟨h1, h2, h3⟩ := lay_len nx n s b r (put p.1 (b + c) s, put p.2 (b + c) (ld nx n s c)) (by simp only [put_len, h]) (fun c' h' => hl c' (List.mem_cons_of_mem _ h'))
    simp only [put_len] at h2 h3
    exact ⟨h1, by omega, by omega⟩
theorem lay_last (nx : Nat → Int) (n s b : Nat) : ∀ (l : List Nat) (p : List Int × List Int), (p.1.length = 0 ∨ p.1.getD (p.1.length - 1) (-1) ≠ -1) →
    ((lay nx n s b l p).1.length = 0 ∨ (lay nx n s b l p).1.getD ((lay nx n s b l p).1.length - 1) (-1) ≠ -1)
  | [], p, h => h
  | c :: r, p, h => by
    rw [lay]
    refine lay_last nx n s b r _ (Or.inr ?_)
    simp only [put_len, put_at]
    by_cases e : max p.1.length (b + c + 1) - 1 = b + c
    · rw [if_pos e]; omega
    · rw [if_neg e]
      have : max p.1.length (b + c + 1) = p.1.length := by omega
      rw [this]
      rcases h with h | h
      · omega
      · exact h
/-- The packed rows of the first states. -/
structure St where
  ck : List Int
  nt : List Int
  bs : List Int
  df : List Int
def step (nx : Nat → Int) (n : Nat) (S : St) (s : Nat) : St :=
  ⟨(lay nx n s (bas S.ck (own nx n s)) (own nx n s) (S.ck, S.nt)).1, (lay nx n s (bas S.ck (own nx n s)) (own nx n s) (S.ck, S.nt)).2, S.bs ++ [(bas S.ck (own nx n s) : Int)], S.df ++ [df nx n s]⟩
def run (nx : Nat → Int) (n : Nat) : Nat → St
  | 0 => ⟨[], [], [], []⟩
  | k + 1 => step nx n (run nx n k) k
structure Inv (nx : Nat → Int) (n k : Nat) (S : St) : Prop where
  l1 : S.ck.length = S.nt.length
  l2 : S.ck.length ≤ k * n
  l3 : S.bs.length = k
  l4 : S.df.length = k
  b3 : ∀ i, i < k → 0 ≤ S.bs.getD i 0 ∧ S.bs.getD i 0 ≤ S.ck.length
  b4 : ∀ i, i < k → S.df.getD i 0 = df nx n i
  cs : ∀ j, j < S.ck.length → (S.ck.getD j (-1) = -1 ∧ S.nt.getD j (-1) = -1) ∨ ∃ i c : Nat, i < k ∧ c < n ∧ S.ck.getD j (-1) = i ∧ (j : Int) = S.bs.getD i 0 + c ∧ S.nt.getD j (-1) = ld nx n i c
  on : ∀ i c, i < k → c ∈ own nx n i → S.ck.getD (S.bs.getD i 0 + c).toNat (-1) = i
  la : S.ck.length = 0 ∨ S.ck.getD (S.ck.length - 1) (-1) ≠ -1
theorem getD_left (l r : List Int) (i : Nat) (d : Int) (h : i < l.length) : (l ++ r).getD i d = l.getD i d := by
  rw [List.getD_eq_getElem?_getD, List.getD_eq_getElem?_getD, List.getElem?_append_left h]
theorem getD_last (l : List Int) (x d : Int) : (l ++ [x]).getD l.length d = x := by simp
theorem getD_out (l : List Int) (i : Nat) (d : Int) (h : l.length ≤ i) : l.getD i d = d := by
  rw [List.getD_eq_getElem?_getD, List.getElem?_eq_none h]; rfl
theorem inv (nx : Nat → Int) (n : Nat) : ∀ k, Inv nx n k (run nx n k)
  | 0 => ⟨rfl, by simp [run], rfl, rfl, fun i h => by omega, fun i h => by omega, fun j h => by simp [run] at h, fun i c h => by omega, Or.inl rfl⟩
  | k + 1 => by
    have I := inv nx n k
    rw [run]
    generalize run nx n k = S at I
    obtain ⟨f1, f2, f3⟩ := bas_spec S.ck (own nx n k)
    unfold step
    generalize hb : bas S.ck (own nx n k) = b at f1 f2 f3
    have hl := lay_len nx n k b (own nx n k) (S.ck, S.nt) I.l1 (fun c hc => own_lt hc)
    have ha := lay_at nx n k b (own nx n k) (S.ck, S.nt)
    have hz := lay_last nx n k b (own nx n k) (S.ck, S.nt) I.la
    generalize lay nx n k b (own nx n k) (S.ck, S.nt) = p at hl ha hz
    obtain ⟨g1, g2, g3⟩ := hl
    simp only at g1 g2 g3 ha hz
    have i2 := I.l2
    have bsl : ∀ i, i < k → (S.bs ++ [(b : Int)]).getD i 0 = S.bs.getD i 0 := fun i hi => getD_left _ _ _ _ (by rw [I.l3]; exact hi)
    have bsk : (S.bs ++ [(b : Int)]).getD k 0 = b := by have := getD_last S.bs (b : Int) 0; rwa [I.l3] at this
    refine ⟨g1, ?_, by simp [I.l3], by simp [I.l4], fun i hi => ?_, fun i hi => ?_, fun j hj => ?_, fun i c hi hc => ?_, hz⟩
    · simp only; rw [Nat.succ_mul]; omega
    · simp only
      by_cases e : i = k
      · subst e; rw [bsk]; omega
      · rw [bsl i (by omega)]; have := I.b3 i (by omega); omega
    · simp only
      by_cases e : i = k
      · subst e; have := getD_last S.df (df nx n i) 0; rwa [I.l4] at this
      · rw [getD_left _ _ _ _ (by rw [I.l4]; omega)]; exact I.b4 i (by omega)
    · simp only at hj ⊢
      rcases ha j with ⟨c, h1, h2, h3, h4⟩ | ⟨h1, h2, h3⟩
      · right
        refine ⟨k, c, by omega, own_lt h1, h3, ?_, h4⟩
        rw [bsk]; omega
      · by_cases hj2 : j < S.ck.length
        · rcases I.cs j hj2 with ⟨h4, h5⟩ | ⟨i, c, h4, h5, h6, h7, h8⟩
          · left; exact ⟨by rw [h2]; exact h4, by rw [h3]; exact h5⟩
          · right
            refine ⟨i, c, by omega, h5, by rw [h2]; exact h6, by rw [bsl i h4]; exact h7, by rw [h3]; exact h8⟩
        · left
          have := I.l1
          exact ⟨by rw [h2, getD_out _ _ _ (by omega)], by rw [h3, getD_out _ _ _ (by omega)]⟩
    · simp only
      by_cases e : i = k
      · subst e
        rw [bsk]
        rw [show ((b : Int) + (c : Int)).toNat = b + c by omega]
        rcases ha (b + c) with ⟨c', h1, h2, h3, h4⟩ | ⟨h1, _⟩
        · exact h3
        · exact absurd rfl (h1 c hc)
      · rw [bsl i (by omega)]
        have ho := I.on i c (by omega) hc
        rcases ha (S.bs.getD i 0 + c).toNat with ⟨c', h1, h2, h3, h4⟩ | ⟨h1, h2, _⟩
        · have := fr_iff.1 f1 c' h1
          rw [← h2, ho] at this
          omega
        · rw [h2]; exact ho
/-- Where packed rows lead. -/
theorem leads {nx : Nat → Int} {n k : Nat} {S : St} (I : Inv nx n k S) (i c : Nat) (hi : i < k) (hc : c < n) :
    if S.bs.getD i 0 + c < S.ck.length ∧ S.ck.getD (S.bs.getD i 0 + c).toNat (-1) = i then S.nt.getD (S.bs.getD i 0 + c).toNat (-1) = ld nx n i c else ld nx n i c = ld nx n (S.df.getD i 0) c := by
  have hb := I.b3 i hi
  split
  · rename_i h
    rcases I.cs (S.bs.getD i 0 + c).toNat (by omega) with ⟨h1, _⟩ | ⟨i', c', h1, h2, h3, h4, h5⟩
    · have := h.2; omega
    · have e : i' = i := by have := h.2; omega
      subst e
      have e2 : c' = c := by omega
      subst e2
      exact h5
  · rename_i h
    rw [I.b4 i hi]
    refine own_not hc (fun hm => h ⟨?_, I.on i c hi hm⟩)
    have ho := I.on i c hi hm
    by_cases hl : (S.bs.getD i 0 + c).toNat < S.ck.length
    · omega
    · rw [getD_out _ _ _ (by omega)] at ho; omega
end Pk
end Go.Proofs.Ytoaaklhpmhjhkaa
