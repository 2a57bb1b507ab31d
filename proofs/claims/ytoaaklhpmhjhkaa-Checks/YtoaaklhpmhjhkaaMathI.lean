/-
  Plain mathematics: the program's parts as tokens; the places that both count.
-/
import Derived.Test.YtoaaklhpmhjhkaaMathH
namespace Go.Proofs.Ytoaaklhpmhjhkaa
open Go.RowKit

/-- A part that goes is a word of its kind. -/
theorem tk_of (s : ByteArray) (k : Nat) (c : UInt8) (r : List UInt8) (hd : s.data.toList.drop k = c :: r) (h0 : Pg.kindOf (bat s k) ≠ 0) (hok : (Pg.readPart (bat s) s.size k (Pg.kindOf (bat s k))).ok = true) :
    ∃ n : Nat, 1 ≤ n ∧ k + n ≤ s.size ∧ (Pg.readPart (bat s) s.size k (Pg.kindOf (bat s k))).n = ((k + n : Nat) : Int) ∧ TkOK ⟨(s.data.toList.drop k).take n, Pg.kindOf (bat s k), (Pg.readPart (bat s) s.size k (Pg.kindOf (bat s k))).mo⟩ := by
  have hb : bat s (k : Int) = c.toNat := by rw [bat_0 hd]; rfl
  have hlt := lt_of_drop hd
  have hlen : r.length + 1 = s.size - k := by
    have : (s.data.toList.drop k).length = s.size - k := by simp
    rw [hd] at this; simpa using this
  by_cases e91 : c = 91
  · subst e91
    have hk : Pg.kindOf (bat s k) = 1 := by rw [hb]; rfl
    have hb' : bat s (k : Int) = 91 := hb
    rw [hk] at hok ⊢
    have hP : Pg.readPart (bat s) s.size k 1 = ⟨(Pg.readSet (bat s) s.size k).n, (Pg.readSet (bat s) s.size k).ok, (Pg.readSet (bat s) s.size k).f, 0, (Pg.readSet (bat s) s.size k).fa⟩ := by
      rw [Pg.readPart, if_pos rfl, Pg.readPlace, if_pos hb']
    rw [hP] at hok ⊢
    rcases set_cases s k r 0 0 0 (Or.inl rfl) hd with ⟨n, F, FA, h1, h2, h3, h4, _⟩ | ⟨h1, _⟩
    · refine ⟨n - k, by omega, by omega, ?_, Or.inl ⟨rfl, Or.inr (Or.inr ⟨r.take (n - k - 1), ?_, fun r' i' => ?_⟩)⟩⟩
      · rw [h3, show k + (n - k) = n by omega]
      · show (s.data.toList.drop k).take (n - k) = _
        rw [hd, show n - k = (n - k - 1) + 1 by omega, List.take_succ_cons]; rfl
      · obtain ⟨fa, inn, h⟩ := set_local h4 r' i'
        refine ⟨fa, inn, ?_⟩
        rw [h, List.length_take, show i' + (n - k) = i' + (min (n - k - 1) r.length + 1) by omega]
    · rw [h1] at hok; cases hok
  by_cases e92 : c = 92
  · subst e92
    have hk : Pg.kindOf (bat s k) = 1 := by rw [hb]; rfl
    have hb' : bat s (k : Int) = 92 := hb
    rw [hk] at hok ⊢
    have hP : Pg.readPart (bat s) s.size k 1 = ⟨(Pg.readEscape (bat s) k).n, (Pg.readEscape (bat s) k).ok, Pg.withF (fun _ => false) (Pg.readEscape (bat s) k).v (Pg.readEscape (bat s) k).v, 0, -1⟩ := by
      rw [Pg.readPart, if_pos rfl, Pg.readPlace, if_neg (by rw [hb']; decide), if_neg (by rw [hb']; decide), if_pos hb']
    rw [hP] at hok ⊢
    rcases esc_cases s k r hd with ⟨n, v, h1, h2, h3, _⟩ | ⟨n, h1, _⟩
    · refine ⟨n + 1, by omega, by omega, by rw [h1], Or.inl ⟨rfl, Or.inr (Or.inl ⟨r.take n, v, ?_, fun r' => ?_⟩)⟩⟩
      · show (s.data.toList.drop k).take (n + 1) = _
        rw [hd, List.take_succ_cons]
      · have := one_local h2 r'
        rw [List.take_succ_cons, List.cons_append] at this
        rw [this, List.length_take, Nat.min_eq_left h3]
    · rw [h1] at hok; cases hok
  by_cases e123 : c = 123
  · subst e123
    have hk : Pg.kindOf (bat s k) = 8 := by rw [hb]; rfl
    rw [hk] at hok ⊢
    have hP : Pg.readPart (bat s) s.size k 8 = ⟨(Pg.readCount (bat s) k).n, (Pg.readCount (bat s) k).ok, fun _ => false, (Pg.readCount (bat s) k).v, Pg.countFalls (bat s) k⟩ := rfl
    rw [hP] at hok ⊢
    rcases count_cases s k r 0 0 hd with ⟨n, mo, le, h1, _, h3, _⟩ | ⟨h1, _⟩
    · rw [h1]
      have hC : IsCountW ((123 :: r).take n) mo := by
        rcases h3 with ⟨x, r', rfl, rfl, x1, x2, rfl, _⟩ | ⟨x, z, r', rfl, rfl, x1, x2, z1, z2, rfl, _⟩
        · exact Or.inl ⟨x, rfl, x1, x2, rfl⟩
        · exact Or.inr ⟨x, z, rfl, x1, x2, z1, z2, rfl⟩
      have hn : 1 ≤ n ∧ n ≤ r.length + 1 := by
        rcases h3 with ⟨x, r', rfl, rfl, _⟩ | ⟨x, z, r', rfl, rfl, _⟩ <;> (simp)
      refine ⟨n, hn.1, by omega, rfl, ?_⟩
      rw [hd]
      exact Or.inr (Or.inr (Or.inr (Or.inr (Or.inr (Or.inr (Or.inr ⟨rfl, hC⟩))))))
    · rw [h1] at hok; cases hok
  have hother : ∀ kd : Int, kd ≠ 1 → kd ≠ 8 → Pg.readPart (bat s) s.size k kd = ⟨(k : Int) + 1, true, fun _ => false, 0, -1⟩ := fun kd h1 h8 => by rw [Pg.readPart, if_neg h1, if_neg h8]
  have hone : (s.data.toList.drop k).take 1 = [c] := by rw [hd]; rfl
  have fin : ∀ kd : Int, Pg.kindOf (bat s k) = kd → (Pg.readPart (bat s) s.size k kd).n = (k : Int) + 1 → TkOK ⟨[c], kd, (Pg.readPart (bat s) s.size k kd).mo⟩ →
      ∃ n : Nat, 1 ≤ n ∧ k + n ≤ s.size ∧ (Pg.readPart (bat s) s.size k (Pg.kindOf (bat s k))).n = ((k + n : Nat) : Int) ∧ TkOK ⟨(s.data.toList.drop k).take n, Pg.kindOf (bat s k), (Pg.readPart (bat s) s.size k (Pg.kindOf (bat s k))).mo⟩ := by
    intro kd h1 h2 h3
    rw [h1]
    exact ⟨1, by omega, by omega, by rw [h2]; rfl, by rw [hone]; exact h3⟩
  by_cases e40 : c = 40
  · subst e40
    exact fin 2 (by rw [hb]; rfl) (by rw [hother 2 (by decide) (by decide)]) (Or.inr (Or.inl ⟨rfl, rfl⟩))
  by_cases e41 : c = 41
  · subst e41
    exact fin 3 (by rw [hb]; rfl) (by rw [hother 3 (by decide) (by decide)]) (Or.inr (Or.inr (Or.inl ⟨rfl, rfl⟩)))
  by_cases e124 : c = 124
  · subst e124
    exact fin 4 (by rw [hb]; rfl) (by rw [hother 4 (by decide) (by decide)]) (Or.inr (Or.inr (Or.inr (Or.inl ⟨rfl, rfl⟩))))
  by_cases e42 : c = 42
  · subst e42
    exact fin 5 (by rw [hb]; rfl) (by rw [hother 5 (by decide) (by decide)]) (Or.inr (Or.inr (Or.inr (Or.inr (Or.inl ⟨rfl, rfl⟩)))))
  by_cases e43 : c = 43
  · subst e43
    exact fin 6 (by rw [hb]; rfl) (by rw [hother 6 (by decide) (by decide)]) (Or.inr (Or.inr (Or.inr (Or.inr (Or.inr (Or.inl ⟨rfl, rfl⟩))))))
  by_cases e63 : c = 63
  · subst e63
    exact fin 7 (by rw [hb]; rfl) (by rw [hother 7 (by decide) (by decide)]) (Or.inr (Or.inr (Or.inr (Or.inr (Or.inr (Or.inr (Or.inl ⟨rfl, rfl⟩)))))))
  by_cases e93 : c = 93
  · subst e93; exact absurd (by rw [hb]; rfl) h0
  by_cases e125 : c = 125
  · subst e125; exact absurd (by rw [hb]; rfl) h0
  have n91 : (c.toNat : Int) ≠ 91 := byte_ne e91
  have n92 : (c.toNat : Int) ≠ 92 := byte_ne e92
  have n123 : (c.toNat : Int) ≠ 123 := byte_ne e123
  have n40 : (c.toNat : Int) ≠ 40 := byte_ne e40
  have n41 : (c.toNat : Int) ≠ 41 := byte_ne e41
  have n124 : (c.toNat : Int) ≠ 124 := byte_ne e124
  have n42 : (c.toNat : Int) ≠ 42 := byte_ne e42
  have n43 : (c.toNat : Int) ≠ 43 := byte_ne e43
  have n63 : (c.toNat : Int) ≠ 63 := byte_ne e63
  have n93 : (c.toNat : Int) ≠ 93 := byte_ne e93
  have n125 : (c.toNat : Int) ≠ 125 := byte_ne e125
  have hk1 : Pg.kindOf (bat s k) = 1 := by
    rw [hb]
    unfold Pg.kindOf
    rw [if_neg (by omega), if_neg n40, if_neg n41, if_neg n124, if_neg n42, if_neg n43, if_neg n63, if_neg n123]
  refine fin 1 hk1 ?_ (Or.inl ⟨rfl, Or.inl ⟨c, rfl, ?_⟩⟩)
  · rw [Pg.readPart, if_pos rfl, Pg.readPlace, hb, if_neg n91]
    by_cases e46 : (c.toNat : Int) = 46
    · rw [if_pos e46]
    · rw [if_neg e46, if_neg n92]
  · unfold Special
    intro h
    rcases h with h | h | h | h | h | h | h | h | h | h | h <;> contradiction
/-- The parts from k on, as tokens. -/
theorem parts_tk (s : ByteArray) : ∀ (u k : Nat) (bf op : Int) (acc : List Pg.Pt), s.size < u + k → k ≤ s.size → (Pg.partsFrom (bat s) s.size u bf op k acc).ok = true →
    ∃ ps ts, (Pg.partsFrom (bat s) s.size u bf op k acc).ps = acc ++ ps ∧ txt ts = s.data.toList.drop k ∧ Val ts bf op ∧ ps.map (fun p => (p.kd, p.mo)) = ts.map (fun t => (t.kd, t.mo)) := by
  intro u
  induction u with
  | zero => intro k bf op acc h1 h2; omega
  | succ u ih =>
    intro k bf op acc hu hk hok
    rcases hd : s.data.toList.drop k with _ | ⟨c, r⟩
    · have hks : k = s.size := by
        have : s.size ≤ k := by simpa using hd
        omega
      have hge : ¬ (k : Int) < (s.size : Int) := by omega
      rw [Pg.partsFrom, if_neg hge] at hok ⊢
      exact ⟨[], [], by simp, rfl, by simpa [Val] using hok, rfl⟩
    · have hlt := lt_of_drop hd
      have hlti : (k : Int) < (s.size : Int) := by omega
      rw [Pg.partsFrom, if_pos hlti] at hok ⊢
      cases hc : Pg.canStand (Pg.kindOf (bat s k)) bf op
      · rw [hc] at hok; cases hok
      rw [hc] at hok
      simp only [if_true] at hok ⊢
      cases hp : (Pg.readPart (bat s) s.size k (Pg.kindOf (bat s k))).ok
      · rw [hp] at hok; cases hok
      rw [hp] at hok
      simp only [if_true] at hok ⊢
      have h0 : Pg.kindOf (bat s k) ≠ 0 := by
        intro e; rw [e] at hc; simp [Pg.canStand] at hc
      obtain ⟨n, n1, n2, n3, n4⟩ := tk_of s k c r hd h0 hp
      rw [n3] at hok ⊢
      obtain ⟨ps, ts, g1, g2, g3, g4⟩ := ih (k + n) _ _ _ (by omega) n2 hok
      refine ⟨_ :: ps, ⟨(s.data.toList.drop k).take n, Pg.kindOf (bat s k), (Pg.readPart (bat s) s.size k (Pg.kindOf (bat s k))).mo⟩ :: ts, by rw [g1, List.append_assoc]; rfl, ?_, ⟨n4, hc, g3⟩, ?_⟩
      · rw [txt_cons, g2, ← hd, ← drop_add, List.take_append_drop]
      · simp only [List.map_cons, g4]
theorem cRun_congr : ∀ (ps qs : List Pg.Pt), ps.map (fun p => (p.kd, p.mo)) = qs.map (fun p => (p.kd, p.mo)) → ∀ c, Pg.cRun ps c = Pg.cRun qs c := by
  intro ps
  induction ps with
  | nil =>
    intro qs h c
    rcases qs with _ | ⟨q, qs⟩
    · rfl
    · simp at h
  | cons p ps ih =>
    intro qs h c
    rcases qs with _ | ⟨q, qs⟩
    · simp at h
    · simp only [List.map_cons, List.cons.injEq, Prod.mk.injEq] at h
      obtain ⟨⟨h1, h2⟩, h3⟩ := h
      have hs : Pg.cStep c p = Pg.cStep c q := by unfold Pg.cStep; rw [h1, h2]
      simp only [Pg.cRun]
      rw [hs]; exact ih qs h3 _
/-- Both count the same places, up to 97. -/
theorem places_agree (s : ByteArray) (h : (Pg.readParts (bat s) s.size).ok = true) : ∃ V g, Rf.cnt g true s.data.toList = some V ∧ 0 ≤ V ∧ Pg.countPlaces (Pg.readParts (bat s) s.size).ps = Pg.capped V := by
  unfold Pg.readParts at h ⊢
  obtain ⟨ps, ts, h1, h2, h3, h4⟩ := parts_tk s ((s.size : Int).toNat + 1) 0 0 0 [] (by omega) (by omega) h
  have hns : ∀ t r, ts = t :: r → ¬ isSuf t := by
    intro t r e hs
    rw [e] at h3
    have := h3.2.1
    unfold isSuf at hs
    have hs' : Pg.isSuffix t.kd = true := by
      simp only [Pg.isSuffix, Bool.or_eq_true, beq_iff_eq]; omega
    simp [Pg.canStand, Pg.endsPiece, Pg.isSuffix] at this
    rcases hs with h | h | h | h <;> simp [h] at this
  obtain ⟨f, inn, rest, V, g1, g2, g3⟩ := parse ts.length ts 0 0 (Nat.le_refl _) (Int.le_refl _) h3 hns
  have hrest : rest = [] := by
    rcases g3 with ⟨h, _⟩ | ⟨b, r, _, _, _, h, _⟩
    · exact h
    · omega
  rw [hrest, List.append_nil] at g1
  subst g1
  obtain ⟨G, hG⟩ := counts f true ts V g2
  obtain ⟨hV, _, hT⟩ := machine f true ts V g2
  obtain ⟨ah, la, e1, _, _, e4⟩ := hT rfl ⟨0, 0, []⟩ (by simp) (by simp)
  refine ⟨V, G, ?_, hV, ?_⟩
  · have := hG 0
    rw [h2, List.drop_zero, Nat.zero_add] at this; exact this
  · have h1' : (Pg.partsFrom (bat s) (s.size : Int) ((s.size : Int).toNat + 1) 0 0 0 []).ps = ps := by
      have := h1
      rw [List.nil_append] at this; exact this
    rw [h1', Pg.countPlaces, cRun_congr ps (ts.map ptOf) (by rw [h4, List.map_map]; rfl), e1]
    simp only
    rw [e4]
    simp
/-- Both find the same wrong. -/
theorem wrong_agree (s : ByteArray) : Rf.WrongIs s.data.toList (Pg.wrong (bat s) s.size).1 (Pg.wrong (bat s) s.size).2 ∧ ((Pg.wrong (bat s) s.size).1 = 0 → (Pg.wrong (bat s) s.size).2 = 0 ∧ s.size ≤ 40 ∧ (Pg.readParts (bat s) s.size).ok = true) := by
  have hl : s.data.toList.length = s.size := by simp
  by_cases h40 : 40 < s.size
  · have : Pg.wrong (bat s) s.size = (2, 0) := by rw [Pg.wrong, if_pos (by omega)]
    rw [this]
    exact ⟨Or.inl ⟨by omega, rfl, rfl⟩, fun h => by simp at h⟩
  have hw : Pg.wrong (bat s) s.size = if (Pg.readParts (bat s) s.size).ok then
    (if Pg.tooDeep (Pg.readParts (bat s) s.size).ps 0 = -1 then
      (if Pg.falling (Pg.readParts (bat s) s.size).ps = -1 then
        (if Pg.matchless (Pg.readParts (bat s) s.size).ps = -1 then (0, 0) else (6, Pg.matchless (Pg.readParts (bat s) s.size).ps))
      else (5, Pg.falling (Pg.readParts (bat s) s.size).ps))
    else (4, Pg.tooDeep (Pg.readParts (bat s) s.size).ps 0))
    else (3, (Pg.readParts (bat s) s.size).n) := by rw [Pg.wrong, if_neg (by omega)]
  rw [hw]
  have hc := parts_cases s ((s.size : Int).toNat + 1) 0 0 0 0 [] (by omega) (by omega) (by omega)
  have hm0 : modeOf 0 = 0 := rfl
  rw [hm0, List.drop_zero] at hc
  have hR : Pg.partsFrom (bat s) s.size ((s.size : Int).toNat + 1) 0 0 ((0 : Nat) : Int) [] = Pg.readParts (bat s) s.size := rfl
  rw [hR] at hc
  rcases hc with ⟨h1, h2, h3⟩ | ⟨ps, h1, h2, h3, h4, ⟨cv, h5⟩, ⟨ce, h6⟩, h7⟩
  · rw [h1]
    simp only [Bool.false_eq_true, if_false]
    have hf : Rf.form s.data.toList = (Pg.readParts (bat s) s.size).n := h2
    exact ⟨Or.inr ⟨by omega, Or.inl ⟨by rw [hf]; exact h3, rfl, hf.symm⟩⟩, fun h => by simp at h⟩
  · rw [List.nil_append] at h2
    rw [h1, h2]
    simp only [if_true]
    have hf : Rf.form s.data.toList < 0 := by
      have : Rf.form s.data.toList = -1 := h3
      omega
    have hdp : Rf.deep s.data.toList = Pg.tooDeep ps 0 := h4 (by omega)
    have hbd : ∀ (ps : List Pg.Pt) (op : Int), (∀ p ∈ ps, 0 ≤ p.pl ∧ -1 ≤ p.fa) → (Pg.tooDeep ps op = -1 ∨ 0 ≤ Pg.tooDeep ps op) ∧ (Pg.falling ps = -1 ∨ 0 ≤ Pg.falling ps) ∧ (Pg.matchless ps = -1 ∨ 0 ≤ Pg.matchless ps) := by
      intro ps
      induction ps with
      | nil => intro op _; exact ⟨Or.inl rfl, Or.inl rfl, Or.inl rfl⟩
      | cons p ps ih =>
        intro op hp
        obtain ⟨i1, i2, i3⟩ := ih (Pg.opens p.kd op) (fun q hq => hp q (by simp [hq]))
        obtain ⟨p1, p2⟩ := hp p (by simp)
        refine ⟨?_, ?_, ?_⟩
        · rw [Pg.tooDeep]; split
          · exact Or.inr p1
          · exact i1
        · rw [Pg.falling]; split
          · exact i2
          · exact Or.inr (by omega)
        · rw [Pg.matchless]; split
          · exact Or.inr p1
          · exact i3
    obtain ⟨b1, b2, b3⟩ := hbd ps 0 h7
    by_cases hD : Pg.tooDeep ps 0 = -1
    · rw [if_pos hD]
      by_cases hF : Pg.falling ps = -1
      · rw [if_pos hF]
        have hV := h5 0
        have hE := h6 0
        by_cases hM : Pg.matchless ps = -1
        · rw [if_pos hM]
          exact ⟨Or.inr ⟨by omega, Or.inr ⟨hf, Or.inr ⟨by rw [hdp, hD]; decide, _, _, hV, Or.inr ⟨by rw [hF]; decide, _, _, hE, Or.inr ⟨by rw [hM]; decide, rfl, rfl⟩⟩⟩⟩⟩, fun _ => ⟨rfl, by omega, trivial⟩⟩
        · rw [if_neg hM]
          exact ⟨Or.inr ⟨by omega, Or.inr ⟨hf, Or.inr ⟨by rw [hdp, hD]; decide, _, _, hV, Or.inr ⟨by rw [hF]; decide, _, _, hE, Or.inl ⟨by omega, rfl, rfl⟩⟩⟩⟩⟩, fun h => by simp at h⟩
      · rw [if_neg hF]
        exact ⟨Or.inr ⟨by omega, Or.inr ⟨hf, Or.inr ⟨by rw [hdp, hD]; decide, _, _, h5 0, Or.inl ⟨by omega, rfl, rfl⟩⟩⟩⟩, fun h => by simp at h⟩
    · rw [if_neg hD]
      exact ⟨Or.inr ⟨by omega, Or.inr ⟨hf, Or.inl ⟨by omega, rfl, hdp.symm⟩⟩⟩, fun h => by simp at h⟩
theorem capped_iff {v : Int} : 96 < Pg.capped v ↔ 96 < v := by rw [capped_eq]; split <;> omega
theorem capped_small {v : Int} (h : ¬ 96 < v) : Pg.capped v = v := by rw [capped_eq, if_neg h]
theorem sumTo_nn {u : Nat → Int} : ∀ n, (∀ i, i < n → 0 ≤ u i) → 0 ≤ sumTo u n
  | 0, _ => Int.le_refl _
  | n + 1, h => by simp only [sumTo]; have := sumTo_nn n (fun i hi => h i (by omega)); have := h n (by omega); omega
/-- Sums of numbers that are cut at 97 are above 96 where the sums are. -/
theorem sum_iff {u v : Nat → Int} : ∀ n, (∀ i, i < n → 0 ≤ v i ∧ u i = Pg.capped (v i)) → (96 < sumTo u n ↔ 96 < sumTo v n) ∧ (¬ 96 < sumTo v n → sumTo u n = sumTo v n)
  | 0, _ => ⟨Iff.rfl, fun _ => rfl⟩
  | n + 1, h => by
    obtain ⟨h1, h2⟩ := sum_iff n (fun i hi => h i (by omega))
    obtain ⟨v0, hu⟩ := h n (by omega)
    have s1 := sumTo_nn n (fun i hi => (h i (by omega)).1)
    have s2 : 0 ≤ sumTo u n := sumTo_nn n (fun i hi => by rw [(h i (by omega)).2]; exact capped_nn (h i (by omega)).1)
    simp only [sumTo]
    rw [hu, capped_eq]
    split
    · constructor
      · omega
      · intro; omega
    · by_cases hs : 96 < sumTo v n
      · have := h1.2 hs
        constructor
        · omega
        · intro; omega
      · have := h2 hs
        constructor
        · omega
        · intro; omega
end Go.Proofs.Ytoaaklhpmhjhkaa
