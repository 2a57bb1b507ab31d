/-
  Plain mathematics: a whole pattern, part by part: form, deep, value, empty.
-/
import Derived.Test.YtoaaklhpmhjhkaaMathC
namespace Go.Proofs.Ytoaaklhpmhjhkaa
open Go.RowKit

theorem read_out {m : Int} (b o c : Int) (hm : m = 0 ∨ m = 1) : Rf.read m b o c = Rf.outside m b o c := by
  rcases hm with rfl | rfl <;> simp [Rf.read, Rf.rest]
/-- What the program and the reader make of what begins at k. -/
def Tok (s : ByteArray) (k : Nat) (m b op before : Int) : Prop :=
  (Pg.canStand (Pg.kindOf (bat s k)) before op = false ∧ Rf.formFrom m b op k (s.data.toList.drop k) = (k : Int)) ∨
  (Pg.canStand (Pg.kindOf (bat s k)) before op = true ∧ (TokOK s k m b op (Pg.kindOf (bat s k)) ∨
    ((Pg.readPart (bat s) s.size k (Pg.kindOf (bat s k))).ok = false ∧ Rf.formFrom m b op k (s.data.toList.drop k) = (Pg.readPart (bat s) s.size k (Pg.kindOf (bat s k))).n)))
theorem token (s : ByteArray) (k : Nat) (c : UInt8) (r : List UInt8) (m b op before : Int) (hd : s.data.toList.drop k = c :: r) (hmb : m = modeOf before) : Tok s k m b op before := by
  have hm : m = 0 ∨ m = 1 := by rw [hmb, modeOf]; split <;> simp
  have hb : bat s (k : Int) = c.toNat := by rw [bat_0 hd]; rfl
  have hread : Rf.read m b op c.toNat = Rf.outside m b op c.toNat := read_out _ _ _ hm
  have hother : ∀ kd : Int, kd ≠ 1 → kd ≠ 8 → Pg.readPart (bat s) s.size k kd = ⟨(k : Int) + 1, true, fun _ => false, 0, -1⟩ := fun kd h1 h8 => by rw [Pg.readPart, if_neg h1, if_neg h8]
  unfold Tok
  rw [hb]
  by_cases e91 : c = 91
  · subst e91
    right; exact ⟨rfl, tok_set s k r m b op hm hd⟩
  by_cases e92 : c = 92
  · subst e92
    right; exact ⟨rfl, tok_esc s k r m b op hm hd⟩
  by_cases e123 : c = 123
  · subst e123
    cases hep : Pg.endsPiece before
    · left
      have hm0 : m = 0 := by rw [hmb, modeOf, hep]; rfl
      subst hm0
      refine ⟨?_, ?_⟩
      · show Pg.canStand 8 before op = false
        simp [Pg.canStand, Pg.isSuffix, hep]
      · rw [hd, ff_no _ hread rfl]
    · right
      have hm1 : m = 1 := by rw [hmb, modeOf, hep]; rfl
      subst hm1
      refine ⟨?_, tok_count s k r b op hd⟩
      show Pg.canStand 8 before op = true
      simp [Pg.canStand, Pg.isSuffix, hep]
  by_cases e40 : c = 40
  · subst e40
    right
    refine ⟨rfl, Or.inl (tok_byte s k 40 r m b op 2 (fun _ => false) ⟨true, 0, b, op + 1⟩ hd e92 e91 e123 ?_ rfl rfl rfl (hother 2 (by decide) (by decide)) (by omega))⟩
    rw [hread]; rfl
  by_cases e41 : c = 41
  · subst e41
    by_cases hop : 0 < op
    · right
      refine ⟨?_, Or.inl (tok_byte s k 41 r m b op 3 (fun _ => false) ⟨true, 1, b, op - 1⟩ hd e92 e91 e123 ?_ rfl rfl rfl (hother 3 (by decide) (by decide)) (by omega))⟩
      · show Pg.canStand 3 before op = true
        simp [Pg.canStand, hop]
      · rw [hread]
        show Rf.to m b (op - 1) (decide (1 ≤ op)) 1 = _
        have : decide (1 ≤ op) = true := by simp; omega
        rw [this]; rfl
    · left
      refine ⟨?_, ?_⟩
      · show Pg.canStand 3 before op = false
        simp [Pg.canStand]; omega
      · rw [hd, ff_no (Rf.to m b (op - 1) (decide (1 ≤ op)) 1) (by rw [hread]; rfl) (by simp [Rf.to]; omega)]
  by_cases e124 : c = 124
  · subst e124
    right
    refine ⟨rfl, Or.inl (tok_byte s k 124 r m b op 4 (fun _ => false) ⟨true, 0, b, op⟩ hd e92 e91 e123 ?_ rfl rfl rfl (hother 4 (by decide) (by decide)) (by omega))⟩
    rw [hread]; rfl
  by_cases esuf : c = 42 ∨ c = 43 ∨ c = 63
  · have hsuf : ∀ kd : Int, Pg.kindOf c.toNat = kd → Pg.isSuffix kd = true → kd ≠ 0 → kd ≠ 3 → kd ≠ 1 → kd ≠ 8 → Pg.opens kd op = op → modeOf kd = 1 → Rf.outside m b op c.toNat = ⟨m == 1, m, b, op⟩ →
        (Pg.canStand (Pg.kindOf c.toNat) before op = false ∧ Rf.formFrom m b op k (s.data.toList.drop k) = (k : Int)) ∨ (Pg.canStand (Pg.kindOf c.toNat) before op = true ∧ (TokOK s k m b op (Pg.kindOf c.toNat) ∨ ((Pg.readPart (bat s) s.size k (Pg.kindOf c.toNat)).ok = false ∧ Rf.formFrom m b op k (s.data.toList.drop k) = (Pg.readPart (bat s) s.size k (Pg.kindOf c.toNat)).n))) := by
      intro kd hkd hs0 n0 n3 n1 n8 hopn hmode hout
      rw [hkd]
      have hcs : Pg.canStand kd before op = Pg.endsPiece before := by simp [Pg.canStand, n0, n3, hs0]
      cases hep : Pg.endsPiece before
      · left
        have hm0 : m = 0 := by rw [hmb, modeOf, hep]; rfl
        subst hm0
        exact ⟨by rw [hcs, hep], by rw [hd, ff_no _ (by rw [hread, hout]) rfl]⟩
      · right
        have hm1 : m = 1 := by rw [hmb, modeOf, hep]; rfl
        subst hm1
        exact ⟨by rw [hcs, hep], Or.inl (tok_byte s k c r 1 b op kd (fun _ => false) ⟨true, 1, b, op⟩ hd e92 e91 e123 (by rw [hread, hout]; rfl) rfl hmode.symm hopn.symm (hother kd n1 n8) (fun h => n1 h.1))⟩
    rcases esuf with rfl | rfl | rfl
    · exact hsuf 5 rfl rfl (by decide) (by decide) (by decide) (by decide) rfl rfl rfl
    · exact hsuf 6 rfl rfl (by decide) (by decide) (by decide) (by decide) rfl rfl rfl
    · exact hsuf 7 rfl rfl (by decide) (by decide) (by decide) (by decide) rfl rfl rfl
  by_cases ewr : c = 93 ∨ c = 125
  · left
    rcases ewr with rfl | rfl
    · exact ⟨rfl, by rw [hd, ff_no _ hread rfl]⟩
    · exact ⟨rfl, by rw [hd, ff_no _ hread rfl]⟩
  have n91 : (c.toNat : Int) ≠ 91 := byte_ne e91
  have n92 : (c.toNat : Int) ≠ 92 := byte_ne e92
  have n123 : (c.toNat : Int) ≠ 123 := byte_ne e123
  have n40 : (c.toNat : Int) ≠ 40 := byte_ne e40
  have n41 : (c.toNat : Int) ≠ 41 := byte_ne e41
  have n124 : (c.toNat : Int) ≠ 124 := byte_ne e124
  have n42 : (c.toNat : Int) ≠ 42 := byte_ne (fun e => esuf (Or.inl e))
  have n43 : (c.toNat : Int) ≠ 43 := byte_ne (fun e => esuf (Or.inr (Or.inl e)))
  have n63 : (c.toNat : Int) ≠ 63 := byte_ne (fun e => esuf (Or.inr (Or.inr e)))
  have n93 : (c.toNat : Int) ≠ 93 := byte_ne (fun e => ewr (Or.inl e))
  have n125 : (c.toNat : Int) ≠ 125 := byte_ne (fun e => ewr (Or.inr e))
  have hk1 : Pg.kindOf c.toNat = 1 := by
    unfold Pg.kindOf
    rw [if_neg (by omega), if_neg n40, if_neg n41, if_neg n124, if_neg n42, if_neg n43, if_neg n63, if_neg n123]
  have hout : Rf.outside m b op c.toNat = ⟨true, 1, b, op⟩ := by
    unfold Rf.outside
    rw [if_neg n92, if_neg n91, if_neg n40, if_neg n41, if_neg n124, if_neg (by omega), if_neg n123, if_neg (by omega)]
  right
  rw [hk1]
  refine ⟨rfl, Or.inl ?_⟩
  by_cases e46 : (c.toNat : Int) = 46
  · refine tok_byte s k c r m b op 1 (fun k => !(Pg.withF (fun _ => false) 10 10 k)) ⟨true, 1, b, op⟩ hd e92 e91 e123 (by rw [hread, hout]) rfl rfl rfl ?_ (fun h => cnt_dot h.2)
    rw [Pg.readPart, if_pos rfl, Pg.readPlace, hb, if_neg n91, if_pos e46]
  · have hbd := byte_lt c
    refine tok_byte s k c r m b op 1 (Pg.withF (fun _ => false) c.toNat c.toNat) ⟨true, 1, b, op⟩ hd e92 e91 e123 (by rw [hread, hout]) rfl rfl rfl ?_ (fun h => cnt_with c.toNat (by omega) hbd h.2)
    rw [Pg.readPart, if_pos rfl, Pg.readPlace, hb, if_neg n91, if_neg e46, if_neg n92]

theorem setLoop_ge (g : Int → Int) (len first : Int) (hg : ∀ j, -1 ≤ g j ∧ g j < 256) (hl : 0 ≤ len) : ∀ (u : Nat) (e fa : Int) (f : Nat → Bool), 0 ≤ e → 0 ≤ (Pg.setLoop g len first u e fa f).n := by
  intro u
  induction u with
  | zero => intro e fa f h; exact h
  | succ u ih =>
    intro e fa f h
    have hi := Pg.readItem_bd g e hg
    unfold Pg.setLoop
    split
    · split
      · simp; omega
      · split
        · exact ih _ _ _ (by omega)
        · simp; omega
    · exact hl
theorem readPart_ge (g : Int → Int) (len i kd : Int) (hg : ∀ j, -1 ≤ g j ∧ g j < 256) (hl : 0 ≤ len) (h : 0 ≤ i) : 0 ≤ (Pg.readPart g len i kd).n := by
  have he := Pg.readEscape_bd g i hg
  unfold Pg.readPart
  split
  · simp only
    unfold Pg.readPlace
    split
    · unfold Pg.readSet
      split
      · exact setLoop_ge g len _ hg hl _ _ _ _ (by omega)
      · exact setLoop_ge g len _ hg hl _ _ _ _ (by omega)
    · split
      · simp; omega
      · split
        · simp; omega
        · simp; omega
  · split
    · simp only
      unfold Pg.readCount Pg.readMost
      repeat' split
      all_goals (simp; omega)
    · simp; omega

/-- All parts from k on. -/
theorem parts_cases (s : ByteArray) : ∀ (u k : Nat) (bf op b : Int) (acc : List Pg.Pt), s.size < u + k → k ≤ s.size → 0 ≤ op →
    ((Pg.partsFrom (bat s) s.size u bf op k acc).ok = false ∧ Rf.formFrom (modeOf bf) b op k (s.data.toList.drop k) = (Pg.partsFrom (bat s) s.size u bf op k acc).n ∧ 0 ≤ (Pg.partsFrom (bat s) s.size u bf op k acc).n) ∨
    (∃ ps, (Pg.partsFrom (bat s) s.size u bf op k acc).ok = true ∧ (Pg.partsFrom (bat s) s.size u bf op k acc).ps = acc ++ ps ∧ Rf.formFrom (modeOf bf) b op k (s.data.toList.drop k) = -1 ∧
      (op ≤ 6 → Rf.deepFrom (modeOf bf) b op k (s.data.toList.drop k) = Pg.tooDeep ps op) ∧
      (∃ c, ∀ v, Rf.valueFrom s.data.toList (v + c) k = some (Pg.falling ps)) ∧ (∃ c, ∀ v, Rf.emptyFrom s.data.toList (v + c) k = some (Pg.matchless ps)) ∧ (∀ p ∈ ps, 0 ≤ p.pl ∧ -1 ≤ p.fa)) := by
  intro u
  induction u with
  | zero => intro k bf op b acc h1 h2; omega
  | succ u ih =>
    intro k bf op b acc hu hk hop
    rcases hd : s.data.toList.drop k with _ | ⟨c, r⟩
    · have hks : k = s.size := by
        have : s.size ≤ k := by simpa using hd
        omega
      have hge : ¬ (k : Int) < (s.size : Int) := by omega
      rw [Pg.partsFrom, if_neg hge]
      have hmode : modeOf bf = 0 ∨ modeOf bf = 1 := by unfold modeOf; split <;> simp
      by_cases h0 : op = 0
      · right
        subst h0
        refine ⟨[], rfl, by simp, ?_, fun _ => rfl, ⟨1, fun v => ?_⟩, ⟨1, fun v => ?_⟩, by simp⟩
        · rw [Rf.formFrom, if_neg (by omega)]
        · rw [Rf.valueFrom, hd]; rfl
        · rw [Rf.emptyFrom, hd]; rfl
      · left
        refine ⟨by simpa using h0, ?_, by simp⟩
        rw [Rf.formFrom, if_pos (by omega)]
    · have hlt := lt_of_drop hd
      have hlti : (k : Int) < (s.size : Int) := by omega
      have ht := token s k c r (modeOf bf) b op bf hd rfl
      rw [Pg.partsFrom, if_pos hlti]
      unfold Tok at ht
      rw [hd] at ht
      rcases ht with ⟨h1, h2⟩ | ⟨h1, h2 | ⟨h2, h3⟩⟩
      · left
        rw [h1]
        exact ⟨rfl, h2, by simp⟩
      · obtain ⟨n, F, mo, fa, b', hn1, hn2, hp, hform, hdeep, hfa, ⟨cv, hval⟩, ⟨ce, hemp⟩⟩ := h2
        rw [h1, hp]
        simp only [if_true]
        rw [hd] at hform hdeep
        have hop' : 0 ≤ Pg.opens (Pg.kindOf (bat s k)) op := by
          unfold Pg.opens
          split
          · omega
          · split
            · rename_i h3
              rw [h3] at h1
              simp [Pg.canStand] at h1; omega
            · exact hop
        generalize Pg.kindOf (bat s k) = kd at *
        rcases ih (k + n) kd (Pg.opens kd op) b' (acc ++ [⟨kd, k, F, 0, mo, fa⟩]) (by omega) hn2 hop' with ⟨g1, g2, g3⟩ | ⟨ps, g1, g2, g3, g4, ⟨cv2, g5⟩, ⟨ce2, g6⟩, g7⟩
        · left
          exact ⟨g1, by rw [hform]; exact g2, g3⟩
        · right
          refine ⟨⟨kd, k, F, 0, mo, fa⟩ :: ps, g1, by rw [g2]; simp, by rw [hform]; exact g3, fun ho => ?_, ?_, ?_, ?_⟩
          · rw [hdeep ho, Pg.tooDeep]
            by_cases h6 : 6 < Pg.opens kd op
            · rw [if_pos h6, if_pos h6]
            · rw [if_neg h6, if_neg h6]; exact g4 (by omega)
          · refine ⟨cv2 + cv, fun v => ?_⟩
            rw [show v + (cv2 + cv) = (v + cv2) + cv by omega, hval, Pg.falling]
            by_cases hf : fa = -1
            · rw [if_pos hf, if_pos hf]; exact g5 v
            · rw [if_neg hf, if_neg hf]
          · refine ⟨ce2 + ce, fun v => ?_⟩
            rw [show v + (ce2 + ce) = (v + ce2) + ce by omega, hemp, Pg.matchless]
            by_cases hf : kd = 1 ∧ Rf.cntTo F 256 = 0
            · rw [if_pos hf, if_pos hf]
            · rw [if_neg hf, if_neg hf]; exact g6 v
          · intro p hp2
            rcases List.mem_cons.1 hp2 with h | h
            · subst h; exact ⟨by simp, hfa⟩
            · exact g7 p h
      · left
        rw [h1]
        simp only [if_true]
        rw [h2]
        refine ⟨rfl, h3, ?_⟩
        exact readPart_ge _ _ _ _ (bat_bd s) (by omega) (by omega)
end Go.Proofs.Ytoaaklhpmhjhkaa
