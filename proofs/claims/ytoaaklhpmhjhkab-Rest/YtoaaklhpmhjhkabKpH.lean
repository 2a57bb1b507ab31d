/-
  munchkeep's sameTokens.
-/
import Derived.Test.YtoaaklhpmhjhkabRsA
namespace Go.Proofs.Ytoaaklhpmhjhkab
open Go.RowKit

theorem flatK_getK : ∀ (l : List (Int × Int × Int)) (k : Nat) (t : Int × Int × Int), l[k]? = some t → ∀ j v, (tkC t)[j]? = some v → (flatK l)[k * 3 + j]? = some v
  | [], k, t, h, _, _, _ => by simp at h
  | a :: l, 0, t, h, j, v, hv => by
    cases (show some a = some t from h)
    have hj : j < (tkC a).length := (List.getElem?_eq_some_iff.1 hv).1
    rw [show flatK (a :: l) = tkC a ++ flatK l from by simp [flatK], Nat.zero_mul, Nat.zero_add, List.getElem?_append_left hj]
    exact hv
  | a :: l, k + 1, t, h, j, v, hv => by
    have h' : l[k]? = some t := by simpa using h
    rw [show flatK (a :: l) = tkC a ++ flatK l from by simp [flatK], List.getElem?_append_right (by simp [tkC]; omega)]
    have e : (k + 1) * 3 + j - (tkC a).length = k * 3 + j := by simp [tkC]; omega
    rw [e]
    exact flatK_getK l k t h' j v hv
/-- Tokens that are there to be read, from a place on. -/
def KLo (ad : Option Addr) (l : List (Int × Int × Int)) (w : World) : Prop :=
  ∀ k t, l[k]? = some t → ∃ g o, ad = some ⟨g, o, none⟩ ∧ w.cell? ⟨g, o + k * 3, none⟩ = some (.int .i64 t.1) ∧ w.cell? ⟨g, o + k * 3 + 1, none⟩ = some (.int .i64 t.2.1) ∧ w.cell? ⟨g, o + k * 3 + 2, none⟩ = some (.int .i64 t.2.2)
theorem OwnK.klo {base : Nat} {v : Value} {l : List (Int × Int × Int)} {w : World} (h : OwnK base v l w) : ∃ ad cap, v = .slice ad l.length cap ∧ l.length ≤ cap ∧ (ad = none ∨ ∃ g, ad = some ⟨g, 0, none⟩) ∧ KLo ad l w := by
  rcases h.2 with ⟨rfl, h0⟩ | ⟨g, cap, cur, rfl, h1, h2, h3, h4, h5, h6⟩
  · have : l = [] := List.eq_nil_of_length_eq_zero h0
    subst this
    exact ⟨none, 0, rfl, by simp, Or.inl rfl, fun k t hk => by simp at hk⟩
  · refine ⟨some ⟨g, 0, none⟩, cap, rfl, h3, Or.inr ⟨g, rfl⟩, fun k t hk => ⟨g, 0, rfl, ?_⟩⟩
    have c : ∀ j v, (tkC t)[j]? = some v → w.cell? ⟨g, 0 + k * 3 + j, none⟩ = some v := fun j v hv => by
      have h7 := flatK_getK l k t hk j v hv
      rw [Nat.zero_add, cell_of_row w g (k * 3 + j) cur _ (0, 0) h2, ← h7, ← h6]
      have : k * 3 + j < l.length * 3 := by
        have := (List.getElem?_eq_some_iff.1 h7).1
        rw [flatK_len] at this; exact this
      simp [this]
    exact ⟨by have := c 0 _ rfl; simpa using this, c 1 _ rfl, c 2 _ rfl⟩
theorem KLo.below {ad : Option Addr} {l : List (Int × Int × Int)} {w w' : World} (h : KLo ad l w) (hW : Below w.heap.size w w') : KLo ad l w' := fun k t hk => by
  obtain ⟨g, o, e, c0, c1, c2⟩ := h k t hk
  have hb := hW.block g (World.block_lt_of_cell? w _ c0)
  refine ⟨g, o, e, ?_, ?_, ?_⟩
  · rw [World.cell?_of_block (w := w) (a := ⟨g, o + k * 3, none⟩) hb]; exact c0
  · rw [World.cell?_of_block (w := w) (a := ⟨g, o + k * 3 + 1, none⟩) hb]; exact c1
  · rw [World.cell?_of_block (w := w) (a := ⟨g, o + k * 3 + 2, none⟩) hb]; exact c2
theorem KLo.drop {g n : Nat} {l : List (Int × Int × Int)} {w : World} (h : KLo (some ⟨g, 0, none⟩) l w) : KLo (some ⟨g, n * 3, none⟩) (l.drop n) w := fun k t hk => by
  rw [List.getElem?_drop] at hk
  obtain ⟨g', o', e, c0, c1, c2⟩ := h (n + k) t hk
  cases e
  have e1 : 0 + (n + k) * 3 = n * 3 + k * 3 := by omega
  rw [e1] at c0 c1 c2
  exact ⟨g, n * 3, rfl, c0, c1, c2⟩

set_option maxRecDepth 100000 in
set_option maxHeartbeats 4000000 in
theorem keepSame_any (a1 a2 : Option Addr) (c1 c2 n m : Nat) (l1 l2 : List (Int × Int × Int)) (w : World) (hm : m ≤ 2000) (hn : n ≤ 100000) (hn1 : l1.length = n) (hn2 : l2.length = n) (h1 : KLo a1 l1 w) (h2 : KLo a2 l2 w)
    (hl : l1 = l2.map (shiftK m)) (hb : ∀ t ∈ l2, 0 ≤ t.2.1 ∧ t.2.1 ≤ 2000) :
    Calls Try.prog 18 #[.slice a1 n c1, .slice a2 n c2, .int .i64 m] w fun e w' => e = .returned (.bool true) ∧ Below w.heap.size w w' := by
  have H1 : Hid (KLo a1 l1 w) := h1
  have H2 : Hid (KLo a2 l2 w) := h2
  have Hl : Hid (l1 = l2.map (shiftK m)) := hl
  have Hb : Hid (∀ t ∈ l2, 0 ≤ t.2.1 ∧ t.2.1 ≤ 2000) := hb
  have Hn1 : Hid (l1.length = n) := hn1
  have Hn2 : Hid (l2.length = n) := hn2
  clear h1 h2 hl hb hn1 hn2
  go_enter Try.func18, Try.ntmps18
  go_wp2_with fail
  go_loopw [7] (fun i w' => ∃ k : Nat, k ≤ n ∧ i = .int .i64 k ∧ Below w.heap.size w w') (fun i _ => n - (intOf i).toNat)
  case atStart => exact ⟨0, by omega, rfl, Below.refl _ _⟩
  case round =>
    obtain ⟨k, hk, rfl, hW⟩ := hrel
    by_cases hlt : k < n
    · have hlt' : (k : Int) < (n : Int) := by omega
      have i0 : (0 : Int) ≤ (k : Int) := by omega
      obtain ⟨t, ht⟩ : ∃ t, l2[k]? = some t := ⟨l2[k]'(by rw [Hn2.out]; exact hlt), List.getElem?_eq_getElem _⟩
      have ht1 : l1[k]? = some (shiftK m t) := by rw [Hl.out, List.getElem?_map, ht]; rfl
      have hbt := Hb.out t (List.mem_of_getElem? ht)
      obtain ⟨g1, o1, rfl, p0, p1, p2⟩ := H1.out.below hW k _ ht1
      obtain ⟨g2, o2, rfl, q0, q1, q2⟩ := H2.out.below hW k t ht
      obtain ⟨r, y, ln⟩ := t
      simp only [shiftK] at p0 p1 p2 q0 q1 q2 hbt
      obtain ⟨z, iz⟩ : ∃ z : Int, y + (m : Int) = z := ⟨_, rfl⟩
      have iz2 : (m : Int) + y = z := by omega
      rw [iz2] at p1
      have hzb : 0 ≤ z ∧ z ≤ 4000 := by omega
      clear ht ht1 iz2
      have r1 : (r == r) = true := by simp
      have r2 : (r != r) = false := by simp
      have r3 : (z == z) = true := by simp
      have r4 : (z != z) = false := by simp
      have r5 : (ln == ln) = true := by simp
      have r6 : (ln != ln) = false := by simp
      go_wp2_with fail
      go_quiet (fail)
      go_wp2_with fail
      go_roundw
      case rel => exact ⟨k + 1, by omega, by go_num, hW.trans (bel_drewN _ _ _)⟩
      case measure => simp [intOf]; omega
    · have hge : ¬ (k : Int) < (n : Int) := by omega
      go_wp2_with fail
      go_ret
      exact ⟨rfl, hW⟩
end Go.Proofs.Ytoaaklhpmhjhkab
