/-
  The law's sameTokens and fullTokens.
-/
import Derived.Test.YtoaaklhpmhjhkaaScC
namespace Go.Proofs.Ytoaaklhpmhjhkaa
open Go.RowKit

theorem flatK_get : ∀ (l : List (Int × Int × Int)) (k : Nat) (t : Int × Int × Int), l[k]? = some t → ∀ j v, (tkC t)[j]? = some v → (flatK l)[k * 3 + j]? = some v
  | [], k, t, h, _, _, _ => by simp at h
  | a :: l, 0, t, h, j, v, hv => by
    cases (show some a = some t from h)
    have hj : j < (tkC a).length := (List.getElem?_eq_some_iff.1 hv).1
    rw [show flatK (a :: l) = tkC a ++ flatK l from by simp [flatK], Nat.zero_mul, Nat.zero_add, List.getElem?_append_left hj]
    exact hv
  | a :: l, k + 1, t, h, j, v, hv => by
    have h' : l[k]? = some t := by simpa using h
    rw [show flatK (a :: l) = tkC a ++ flatK l from by simp [flatK], List.getElem?_append_right (by simp [tkC]; omega)]
    have e : (k + 1) * 3 + j - (tkC a).length = k * 3 + j := by simp [tkC]; omega
    rw [e]
    exact flatK_get l k t h' j v hv
/-- Tokens that are there to be read. -/
def KL (ad : Option Addr) (l : List (Int × Int × Int)) (w : World) : Prop :=
  ∀ k t, l[k]? = some t → ∃ g, ad = some ⟨g, 0, none⟩ ∧ w.cell? ⟨g, k * 3, none⟩ = some (.int .i64 t.1) ∧ w.cell? ⟨g, k * 3 + 1, none⟩ = some (.int .i64 t.2.1) ∧ w.cell? ⟨g, k * 3 + 2, none⟩ = some (.int .i64 t.2.2)
theorem OwnK.kl {base : Nat} {v : Value} {l : List (Int × Int × Int)} {w : World} (h : OwnK base v l w) : ∃ ad cap, v = .slice ad l.length cap ∧ KL ad l w := by
  rcases h.2 with ⟨rfl, h0⟩ | ⟨g, cap, cur, rfl, h1, h2, h3, h4, h5, h6⟩
  · have : l = [] := List.eq_nil_of_length_eq_zero h0
    subst this
    exact ⟨none, 0, rfl, fun k t hk => by simp at hk⟩
  · refine ⟨some ⟨g, 0, none⟩, cap, rfl, fun k t hk => ⟨g, rfl, ?_⟩⟩
    have c : ∀ j v, (tkC t)[j]? = some v → w.cell? ⟨g, k * 3 + j, none⟩ = some v := fun j v hv => by
      have h7 := flatK_get l k t hk j v hv
      rw [cell_of_row w g (k * 3 + j) cur _ (0, 0) h2, ← h7, ← h6]
      have : k * 3 + j < l.length * 3 := by
        have := (List.getElem?_eq_some_iff.1 h7).1
        rw [flatK_len] at this; exact this
      simp [this]
    exact ⟨by have := c 0 _ rfl; simpa using this, c 1 _ rfl, c 2 _ rfl⟩
theorem KL.below {ad : Option Addr} {l : List (Int × Int × Int)} {w w' : World} (h : KL ad l w) (hW : Below w.heap.size w w') : KL ad l w' := fun k t hk => by
  obtain ⟨g, e, c0, c1, c2⟩ := h k t hk
  have hb := hW.block g (World.block_lt_of_cell? w _ c0)
  refine ⟨g, e, ?_, ?_, ?_⟩
  · rw [World.cell?_of_block (w := w) (a := ⟨g, k * 3, none⟩) hb]; exact c0
  · rw [World.cell?_of_block (w := w) (a := ⟨g, k * 3 + 1, none⟩) hb]; exact c1
  · rw [World.cell?_of_block (w := w) (a := ⟨g, k * 3 + 2, none⟩) hb]; exact c2

set_option maxRecDepth 100000 in
set_option maxHeartbeats 4000000 in
theorem sameTokens_any (b1 b2 : Nat) (v1 v2 : Value) (l : List (Int × Int × Int)) (w : World) (hn : l.length ≤ 100000) (h1 : OwnK b1 v1 l w) (h2 : OwnK b2 v2 l w) :
    Calls Try.prog 22 #[v1, v2] w fun e w' => e = .returned (.bool true) ∧ Below w.heap.size w w' := by
  obtain ⟨a1, c1, rfl, k1⟩ := h1.kl
  obtain ⟨a2, c2, rfl, k2⟩ := h2.kl
  have H1 : Hid (KL a1 l w) := k1
  have H2 : Hid (KL a2 l w) := k2
  clear h1 h2 k1 k2
  obtain ⟨n, hnl⟩ : ∃ n, n = l.length := ⟨_, rfl⟩
  rw [← hnl] at hn ⊢
  have Hn : Hid (n = l.length) := hnl
  clear hnl
  go_enter Try.func22, Try.ntmps22
  go_wp2_with fail
  go_loopw [5] (fun i w' => ∃ k : Nat, k ≤ n ∧ i = .int .i64 k ∧ Below w.heap.size w w') (fun i _ => n - (intOf i).toNat)
  case atStart => exact ⟨0, by omega, rfl, Below.refl _ _⟩
  case round =>
    obtain ⟨k, hk, rfl, hW⟩ := hrel
    by_cases hlt : k < n
    · have hlt' : (k : Int) < (n : Int) := by omega
      have i0 : (0 : Int) ≤ (k : Int) := by omega
      obtain ⟨t, ht⟩ : ∃ t, l[k]? = some t := ⟨l[k]'(by rw [← Hn.out]; exact hlt), List.getElem?_eq_getElem _⟩
      obtain ⟨g1, rfl, p0, p1, p2⟩ := H1.out.below hW k t ht
      obtain ⟨g2, rfl, q0, q1, q2⟩ := H2.out.below hW k t ht
      obtain ⟨x, y, z⟩ := t
      simp only at p0 p1 p2 q0 q1 q2
      clear ht
      go_wp2_with fail
      go_quiet (fail)
      go_wp2_with fail
      go_roundw
      case rel => exact ⟨k + 1, by omega, by go_num, hW.trans (bel_drewN _ _ _)⟩
      case measure => simp [intOf]; omega
    · have hge : ¬ (k : Int) < (n : Int) := by omega
      go_wp2_with fail
      go_ret
      exact ⟨rfl, hW⟩

theorem there_setCell {w : World} {g n q : Nat} (h : w.there g 0 n) (u : Value) : (w.setCell ⟨g, q, none⟩ u).there g 0 n := fun j hj => by
  obtain ⟨t1, t2⟩ := h j hj
  rw [World.frozen?_setCell]
  refine ⟨?_, t2⟩
  rw [Nat.zero_add] at t1 ⊢
  by_cases e : j = q
  · subst e
    obtain ⟨v, hv⟩ := Option.isSome_iff_exists.1 t1
    rw [World.cell?_setCell_same w ⟨g, j, none⟩ u (by rw [hv])]; rfl
  · rw [World.cell?_setCell_other _ _ _ _ (by intro he; cases he; exact e rfl)]; exact t1
theorem there_setCells {g n : Nat} : ∀ (vs : List Value) (q : Nat) (w : World), w.there g 0 n → (w.setCells g q vs).there g 0 n
  | [], _, _, h => h
  | v :: vs, q, _, h => there_setCells vs (q + 1) _ (there_setCell h v)
/-- Room that may be written over. -/
def Room (base : Nat) (v : Value) (w : World) : Prop := v = .slice none 0 0 ∨ ∃ g n cap, v = .slice (some ⟨g, 0, none⟩) n cap ∧ base ≤ g ∧ n ≤ cap ∧ cap ≤ maxLen ∧ w.there g 0 (cap * 3)
theorem OwnK.room {base : Nat} {v : Value} {l : List (Int × Int × Int)} {w : World} (h : OwnK base v l w) : Room base v w := by
  rcases h.2 with ⟨rfl, h0⟩ | ⟨g, cap, cur, rfl, h1, h2, h3, h4, h5, h6⟩
  · exact Or.inl rfl
  · refine Or.inr ⟨g, l.length, cap, rfl, h1, h3, h4, fun j hj => ?_⟩
    rw [Nat.zero_add, cell_of_row w g j cur _ (0, 0) h2]
    refine ⟨by simp; omega, ?_⟩
    simp [World.frozen?, h2]
theorem Room.below {base : Nat} {v : Value} {w w' : World} (h : Room base v w) (hW : Below w.heap.size w w') : Room base v w' := by
  rcases h with h | ⟨g, n, cap, rfl, h1, h2, h3, h4⟩
  · exact Or.inl h
  · refine Or.inr ⟨g, n, cap, rfl, h1, h2, h3, ?_⟩
    rcases Nat.eq_zero_or_pos cap with h0 | h0
    · subst h0; intro j hj; omega
    · exact there_below h4 (by omega) hW

set_option maxRecDepth 100000 in
set_option maxHeartbeats 4000000 in
theorem fullTokens_any (base : Nat) (v : Value) (w : World) (hb : base ≤ w.heap.size) (h : Room base v w) :
    Calls Try.prog 20 #[v] w fun e w' => e = .returned (.tuple #[]) ∧ Room base v w' ∧ Below base w w' ∧ (∀ q, (∀ k, v.ownBlock = some k → q ≠ k) → w'.heap[q]? = w.heap[q]?) ∧ w'.heap.size = w.heap.size := by
  rcases h with rfl | ⟨g, n, cap, rfl, h1, h2, h3, h4⟩
  · go_enter Try.func20, Try.ntmps20
    go_wp2_with fail
    go_loopw [3] (fun i w' => i = .int .i64 0 ∧ w' = w) (fun _ _ => 0)
    case atStart => exact ⟨rfl, rfl⟩
    case round =>
      obtain ⟨rfl, rfl⟩ := hrel
      go_wp2_with fail
      go_end0
      exact ⟨rfl, Or.inl rfl, Below.refl _ _, fun _ _ => rfl, rfl⟩
  · unfold maxLen at h3
    have h3' : (cap : Int) ≤ 9223372036854775807 := by omega
    go_enter Try.func20, Try.ntmps20
    go_wp2_with fail
    go_loopw [3] (fun i w' => ∃ k : Nat, k ≤ cap ∧ i = .int .i64 k ∧ w'.there g 0 (cap * 3) ∧ w.grownBy w' (some g) ∧ w'.heap.size = w.heap.size) (fun i _ => cap - (intOf i).toNat)
    case atStart => exact ⟨0, by omega, rfl, h4, grown_refl _ _, rfl⟩
    case round =>
      clear h4
      obtain ⟨k, hk, rfl, hT, hG, hz⟩ := hrel
      by_cases hlt : k < cap
      · have hlt' : (k : Int) < (cap : Int) := by omega
        have hth : wr.there g (k * 3) 3 := fun j hj => by
          have := hT (k * 3 + j) (by omega)
          rw [Nat.zero_add] at this; exact this
        have hT2 : (wr.setCells g (k * 3) [.int .i64 7777777, .int .i64 7777777, .int .i64 7777777]).there g 0 (cap * 3) := fun j hj => by
          exact there_setCells _ _ _ hT j hj
        go_wp2_with (first | (refine wpList_store_mid rfl 69 _ _ rfl g (k * 3) #[.int .i64 7777777, .int .i64 7777777, .int .i64 7777777] rfl rfl hth info_tok (by simp [Value.oneCell']) ?_))
        go_roundw
        case rel => exact ⟨k + 1, by omega, by go_num, hT2, grown_trans hG (setCells_grown g _ _ _), by rw [setCells_size]; exact hz⟩
        case measure => simp [intOf]; omega
      · have hge : ¬ (k : Int) < (cap : Int) := by omega
        go_wp2_with fail
        go_end0
        refine ⟨rfl, Or.inr ⟨g, n, cap, rfl, h1, h2, by unfold maxLen; omega, hT⟩, (Below.refl _ _).grown hG hb (fun q hq => by cases hq; exact h1), fun q hq => ?_, hz⟩
        have hne := hq g rfl
        rcases Nat.lt_or_ge q w.heap.size with hl | hl
        · exact hG.block q hl (fun e => hne (Option.some.inj e))
        · rw [Array.getElem?_eq_none hl, Array.getElem?_eq_none (by omega)]
end Go.Proofs.Ytoaaklhpmhjhkaa
