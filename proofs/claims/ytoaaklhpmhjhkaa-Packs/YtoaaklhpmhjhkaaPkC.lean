/-
  The program's cells: fits, baseFor, put.
-/
import Derived.Test.YtoaaklhpmhjhkaaPkB
namespace Go.Proofs.Ytoaaklhpmhjhkaa
open Go.RowKit
open Bm

theorem Bm.OwnL.at_ {base : Nat} {g m cap : Nat} {l : List Int} {w : World} (h : OwnL base (.slice (some ⟨g, 0, none⟩) m cap) l w) (k : Nat) (hk : k < l.length) : w.cell? ⟨g, k, none⟩ = some (.int .i64 (l.getD k 0)) ∧ w.frozen? ⟨g, k, none⟩ = false := by
  rcases h.2 with ⟨h0, _⟩ | ⟨g', cap', cur, h0, h1, h2, h3, h4, h5, h6⟩
  · cases h0
  · have e : g' = g := by cases h0; rfl
    subst e
    have hx := h.cells (g := g') rfl k (.int .i64 (l.getD k 0)) (by simp [ints, List.getD_eq_getElem?_getD, hk])
    rw [Addr.add_lit, Nat.zero_add] at hx
    refine ⟨hx, ?_⟩
    simp [World.frozen?, h2]
theorem Bm.OwnL.some_ {base : Nat} {v : Value} {l : List Int} {w : World} (h : OwnL base v l w) (hl : 0 < l.length) : ∃ g cap, v = .slice (some ⟨g, 0, none⟩) l.length cap := by
  rcases h.2 with ⟨rfl, h0⟩ | ⟨g, cap, cur, rfl, _⟩
  · omega
  · exact ⟨g, cap, rfl⟩
theorem Bm.OwnL.set_ {base : Nat} {g cap : Nat} {l : List Int} {w : World} (h : OwnL base (.slice (some ⟨g, 0, none⟩) l.length cap) l w) (k : Nat) (x : Int) : OwnL base (.slice (some ⟨g, 0, none⟩) l.length cap) (l.set k x) (w.setCell ⟨g, k, none⟩ (.int .i64 x)) := by
  rcases h.2 with ⟨h0, _⟩ | ⟨g', cap', cur, h0, h1, h2, h3, h4, h5, h6⟩
  · cases h0
  · have e : g' = g := by cases h0; rfl
    have e2 : cap' = cap := by cases h0; rfl
    subst e
    subst e2
    refine ⟨by simp [ints], Or.inr ⟨g', cap', cur.setIfInBounds k (.int .i64 x), by simp, h1, ?_, by simpa using h3, h4, by simpa using h5, ?_⟩⟩
    · have hlt := (Array.getElem?_eq_some_iff.1 h2).1
      unfold World.setCell
      simp only [Array.getElem?_modify]
      rw [h2]; rfl
    · simp only [List.length_set, Nat.mul_one] at h6 ⊢
      rw [Array.toList_setIfInBounds, List.take_set, h6]
      simp [ints, List.map_set]
/-- Cells in memory. -/
structure Cs (base cb : Nat) (vc vn : Value) (ck nt : List Int) (w : World) : Prop where
  s : TC cb [vc, vn] w
  c : OwnL base vc ck w
  n : OwnL base vn nt w
  ne : ∀ k, vc.ownBlock = some k → vn.ownBlock ≠ some k
  lt : cb < base
theorem Cs.below {base cb : Nat} {vc vn : Value} {ck nt : List Int} {w w' : World} (h : Cs base cb vc vn ck nt w) (hW : Below w.heap.size w w') : Cs base cb vc vn ck nt w' :=
  ⟨h.s.below hW, h.c.below hW, h.n.below hW, h.ne, h.lt⟩
theorem Cs.keep {base cb : Nat} {vc vn : Value} {ck nt : List Int} {w w' : World} (h : Cs base cb vc vn ck nt w) (h0 : w'.heap[cb]? = w.heap[cb]?) (h1 : ∀ k, vc.ownBlock = some k → w'.heap[k]? = w.heap[k]?) (h2 : ∀ k, vn.ownBlock = some k → w'.heap[k]? = w.heap[k]?) : Cs base cb vc vn ck nt w' :=
  ⟨h.s.block h0, h.c.keep h1, h.n.keep h2, h.ne, h.lt⟩
/-- Cells are put: what else there is stays. -/
structure Putted (cb : Nat) (vc vn vc' vn' : Value) (w w' : World) : Prop where
  bel : Below cb w w'
  kept : ∀ q, q < w.heap.size → q ≠ cb → vc.ownBlock ≠ some q → vn.ownBlock ≠ some q → w'.heap[q]? = w.heap[q]?
  oc : ∀ q, vc'.ownBlock = some q → vc.ownBlock = some q ∨ w.heap.size ≤ q
  on : ∀ q, vn'.ownBlock = some q → vn.ownBlock = some q ∨ w.heap.size ≤ q
theorem Putted.refl (cb : Nat) (vc vn : Value) (w : World) : Putted cb vc vn vc vn w w := ⟨Below.refl _ _, fun _ _ _ _ _ => rfl, fun _ h => Or.inl h, fun _ h => Or.inl h⟩
theorem Putted.trans {cb : Nat} {vc vn vc' vn' vc'' vn'' : Value} {w w' w'' : World} (h : Putted cb vc vn vc' vn' w w') (h' : Putted cb vc' vn' vc'' vn'' w' w'') : Putted cb vc vn vc'' vn'' w w'' := by
  refine ⟨h.bel.trans h'.bel, fun q hq h0 h1 h2 => ?_, fun q hq => ?_, fun q hq => ?_⟩
  · have hz := h.bel.size
    rw [h'.kept q (by omega) h0 (fun e => ?_) (fun e => ?_), h.kept q hq h0 h1 h2]
    · rcases h.oc q e with e | e
      · exact h1 e
      · omega
    · rcases h.on q e with e | e
      · exact h2 e
      · omega
  · have hz := h.bel.size
    rcases h'.oc q hq with e | e
    · exact h.oc q e
    · exact Or.inr (by omega)
  · have hz := h.bel.size
    rcases h'.on q hq with e | e
    · exact h.on q e
    · exact Or.inr (by omega)
theorem Cs.pushC {base cb : Nat} {vc vn : Value} {ck nt : List Int} {W W1 w5 : World} {x : Int} {g cap : Nat} {ob : Obj} (h : Cs base cb vc vn ck nt W) (hW1 : W1 = W.alloc ob)
    (h5 : OwnL base (.slice (some ⟨g, 0, none⟩) (ck.length + 1) cap) (ck ++ [x]) w5) (hg : W1.grownBy w5 vc.ownBlock) (hgb : vc.ownBlock = some g ∨ g = W1.heap.size) :
    Cs base cb (.slice (some ⟨g, 0, none⟩) (ck.length + 1) cap) vn (ck ++ [x]) nt (w5.setCell ⟨cb, 0, none⟩ (.slice (some ⟨g, 0, none⟩) (ck.length + 1) cap)) ∧ Putted cb vc vn (.slice (some ⟨g, 0, none⟩) (ck.length + 1) cap) vn W (w5.setCell ⟨cb, 0, none⟩ (.slice (some ⟨g, 0, none⟩) (ck.length + 1) cap)) := by
  have hlt := h.lt
  have hcb := h.s.lt
  have x1 : Below W.heap.size W W1 := by rw [hW1]; exact box_bel _ _
  have hz1 : W1.heap.size = W.heap.size + 1 := by rw [hW1]; simp
  have k1 := h.below x1
  have hb : ∀ k, k ≠ cb → (w5.setCell ⟨cb, 0, none⟩ (.slice (some ⟨g, 0, none⟩) (ck.length + 1) cap)).heap[k]? = w5.heap[k]? := fun k hk => Below.heap_setCell w5 ⟨cb, 0, none⟩ _ k (fun e => hk e)
  have hgc : base ≤ g := (h5.blk g rfl).1
  have hc := h.c.blk
  have hn := h.n.blk
  refine ⟨⟨?_, ?_, ?_, ?_, hlt⟩, ?_, ?_, ?_, ?_⟩
  · exact (k1.s.block (hg.block _ (by omega) (fun e => by have := (hc _ e.symm).1; omega))).set 0 (by simp) _
  · exact h5.keep (fun k hk => hb k (by cases hk; show g ≠ _; omega))
  · exact (k1.n.grown hg (fun k hk e => h.ne k e hk)).keep (fun k hk => hb k (by have := (hn k hk).1; omega))
  · intro k hk e
    have e2 : g = k := Option.some.inj hk
    rcases hgb with h1 | h1
    · rw [e2] at h1; exact h.ne k h1 e
    · have := (hn k e).2; omega
  · exact ((x1.mono (Nat.le_of_lt hcb)).grown hg (by omega) (fun q hq => by have := (hc q hq).1; omega)).setCell (p := ⟨cb, 0, none⟩) (Nat.le_refl _) _
  · intro q hq h0 h1 h2
    rw [hb q h0, hg.block q (by omega) (fun e => h1 e.symm), x1.block q hq]
  · intro q hq
    have e2 : g = q := Option.some.inj hq
    rcases hgb with h1 | h1
    · left; rw [h1, e2]
    · right; omega
  · exact fun q hq => Or.inl hq
theorem Cs.pushN {base cb : Nat} {vc vn : Value} {ck nt : List Int} {W W1 w5 : World} {x : Int} {g cap : Nat} {ob : Obj} (h : Cs base cb vc vn ck nt W) (hW1 : W1 = W.alloc ob)
    (h5 : OwnL base (.slice (some ⟨g, 0, none⟩) (nt.length + 1) cap) (nt ++ [x]) w5) (hg : W1.grownBy w5 vn.ownBlock) (hgb : vn.ownBlock = some g ∨ g = W1.heap.size) :
    Cs base cb vc (.slice (some ⟨g, 0, none⟩) (nt.length + 1) cap) ck (nt ++ [x]) (w5.setCell ⟨cb, 1, none⟩ (.slice (some ⟨g, 0, none⟩) (nt.length + 1) cap)) ∧ Putted cb vc vn vc (.slice (some ⟨g, 0, none⟩) (nt.length + 1) cap) W (w5.setCell ⟨cb, 1, none⟩ (.slice (some ⟨g, 0, none⟩) (nt.length + 1) cap)) := by
  have hlt := h.lt
  have hcb := h.s.lt
  have x1 : Below W.heap.size W W1 := by rw [hW1]; exact box_bel _ _
  have hz1 : W1.heap.size = W.heap.size + 1 := by rw [hW1]; simp
  have k1 := h.below x1
  have hb : ∀ k, k ≠ cb → (w5.setCell ⟨cb, 1, none⟩ (.slice (some ⟨g, 0, none⟩) (nt.length + 1) cap)).heap[k]? = w5.heap[k]? := fun k hk => Below.heap_setCell w5 ⟨cb, 1, none⟩ _ k (fun e => hk e)
  have hgc : base ≤ g := (h5.blk g rfl).1
  have hc := h.c.blk
  have hn := h.n.blk
  refine ⟨⟨?_, ?_, ?_, ?_, hlt⟩, ?_, ?_, ?_, ?_⟩
  · exact (k1.s.block (hg.block _ (by omega) (fun e => by have := (hn _ e.symm).1; omega))).set 1 (by simp) _
  · exact (k1.c.grown hg (fun k hk e => h.ne k hk e)).keep (fun k hk => hb k (by have := (hc k hk).1; omega))
  · exact h5.keep (fun k hk => hb k (by cases hk; show g ≠ _; omega))
  · intro k hk e
    have e2 : g = k := Option.some.inj e
    rcases hgb with h1 | h1
    · rw [e2] at h1; exact h.ne k hk h1
    · have := (hc k hk).2; omega
  · exact ((x1.mono (Nat.le_of_lt hcb)).grown hg (by omega) (fun q hq => by have := (hn q hq).1; omega)).setCell (p := ⟨cb, 1, none⟩) (Nat.le_refl _) _
  · intro q hq h0 h1 h2
    rw [hb q h0, hg.block q (by omega) (fun e => h2 e.symm), x1.block q hq]
  · exact fun q hq => Or.inl hq
  · intro q hq
    have e2 : g = q := Option.some.inj hq
    rcases hgb with h1 | h1
    · left; rw [h1, e2]
    · right; omega
theorem Cs.setC {base cb g cap : Nat} {vn : Value} {ck nt : List Int} {W : World} (h : Cs base cb (.slice (some ⟨g, 0, none⟩) ck.length cap) vn ck nt W) (k : Nat) (x : Int) :
    Cs base cb (.slice (some ⟨g, 0, none⟩) ck.length cap) vn (ck.set k x) nt (W.setCell ⟨g, k, none⟩ (.int .i64 x)) ∧ Putted cb (.slice (some ⟨g, 0, none⟩) ck.length cap) vn (.slice (some ⟨g, 0, none⟩) ck.length cap) vn W (W.setCell ⟨g, k, none⟩ (.int .i64 x)) := by
  have hlt := h.lt
  have hg := (h.c.blk g rfl).1
  have hb : ∀ q, q ≠ g → (W.setCell ⟨g, k, none⟩ (.int .i64 x)).heap[q]? = W.heap[q]? := fun q hq => Below.heap_setCell W ⟨g, k, none⟩ _ q (fun e => hq e)
  refine ⟨⟨h.s.block (hb _ (by omega)), h.c.set_ k x, h.n.keep (fun q hq => hb q (fun e => h.ne g rfl (by rw [← e]; exact hq))), h.ne, hlt⟩, ?_, ?_, fun _ h => Or.inl h, fun _ h => Or.inl h⟩
  · exact (Below.refl _ _).setCell (p := ⟨g, k, none⟩) (Nat.le_trans (Nat.le_of_lt hlt) hg) _
  · exact fun q _ _ h1 _ => hb q (fun e => h1 (by rw [e]; rfl))
theorem Cs.setN {base cb g cap : Nat} {vc : Value} {ck nt : List Int} {W : World} (h : Cs base cb vc (.slice (some ⟨g, 0, none⟩) nt.length cap) ck nt W) (k : Nat) (x : Int) :
    Cs base cb vc (.slice (some ⟨g, 0, none⟩) nt.length cap) ck (nt.set k x) (W.setCell ⟨g, k, none⟩ (.int .i64 x)) ∧ Putted cb vc (.slice (some ⟨g, 0, none⟩) nt.length cap) vc (.slice (some ⟨g, 0, none⟩) nt.length cap) W (W.setCell ⟨g, k, none⟩ (.int .i64 x)) := by
  have hlt := h.lt
  have hg := (h.n.blk g rfl).1
  have hb : ∀ q, q ≠ g → (W.setCell ⟨g, k, none⟩ (.int .i64 x)).heap[q]? = W.heap[q]? := fun q hq => Below.heap_setCell W ⟨g, k, none⟩ _ q (fun e => hq e)
  refine ⟨⟨h.s.block (hb _ (by omega)), h.c.keep (fun q hq => hb q (fun e => h.ne q hq (by rw [e]; rfl))), h.n.set_ k x, h.ne, hlt⟩, ?_, ?_, fun _ h => Or.inl h, fun _ h => Or.inl h⟩
  · exact (Below.refl _ _).setCell (p := ⟨g, k, none⟩) (Nat.le_trans (Nat.le_of_lt hlt) hg) _
  · exact fun q _ _ _ h2 => hb q (fun e => h2 (by rw [e]; rfl))
theorem getD_dflt (l : List Int) (k : Nat) (d e : Int) (h : k < l.length) : l.getD k d = l.getD k e := by
  rw [List.getD_eq_getElem?_getD, List.getD_eq_getElem?_getD, List.getElem?_eq_getElem h]; rfl
theorem natI_at {l : List Nat} {i c : Nat} (h : l[i]? = some c) : (natI l).getD i 0 = (c : Int) := by simp [natI, List.getD_eq_getElem?_getD, h]

set_option maxRecDepth 100000 in
set_option maxHeartbeats 4000000 in
theorem fits_any (base cb : Nat) (vc vn : Value) (ck nt : List Int) (B b : Nat) (v : Value) (l : List Nat) (w : World) (h : Cs base cb vc vn ck nt w) (hv : OwnL B v (natI l) w) (hb : b ≤ 100000) (_hck : ck.length ≤ 100000) (hl : l.length ≤ 256) (hl2 : ∀ c ∈ l, c < 256) :
    Calls Try.prog 132 #[.pointer (some ⟨cb, 0, none⟩), .int .i64 b, v] w fun e w' => e = .returned (.bool (Pk.fr ck b l)) ∧ w' = w := by
  obtain ⟨ad, cap, rfl, il⟩ := h.c.il
  obtain ⟨av, cv, rfl, iv⟩ := hv.il
  rw [natI_len] at iv ⊢
  have c0 := (h.s 0 _ rfl).1
  have HI : Hid (IL ad (fun i => ck.getD i 0) ck.length w) := il
  have HV : Hid (IL av (fun i => (natI l).getD i 0) l.length w) := iv
  clear h hv il iv
  go_enter Try.func132, Try.ntmps132
  go_wp2_with fail
  go_loop [12] (fun x => ∃ i : Nat, i ≤ l.length ∧ x = .int .i64 i ∧ Hid (∀ j c, j < i → l[j]? = some c → ck.getD (b + c) (-1) = -1)) (fun x => l.length - (intOf x).toNat)
  case atStart => exact ⟨0, by omega, rfl, fun j c hj => by omega⟩
  case round =>
    obtain ⟨i, hi, rfl, HK⟩ := hrel
    by_cases hlt : i < l.length
    · have hlt' : (i : Int) < (l.length : Int) := by omega
      obtain ⟨c, hc⟩ : ∃ c, l[i]? = some c := ⟨l[i], List.getElem?_eq_getElem hlt⟩
      obtain ⟨gv, ov, rfl, cv'⟩ := HV.out i hlt
      simp only [natI_at hc] at cv'
      have hc256 := hl2 c (List.mem_of_getElem? hc)
      have Hc : Hid (l[i]? = some c) := hc
      obtain ⟨k, hk⟩ : ∃ k : Nat, k = b + c := ⟨_, rfl⟩
      have Hk : Hid (k = b + c) := hk
      have ik : (b : Int) + (c : Int) = (k : Int) := by omega
      have hk5 : k ≤ 200000 := by omega
      have HK2 : Hid (ck.getD k (-1) = -1 → ∀ j c, j < i + 1 → l[j]? = some c → ck.getD (b + c) (-1) = -1) := fun h0 j c' hj hc' => by
        by_cases e : j = i
        · subst e
          rw [Hc.out] at hc'; cases hc'; rw [← Hk.out]; exact h0
        · exact HK.out j c' (by omega) hc'
      clear hc hk
      by_cases hkl : k < ck.length
      · have hkl' : (k : Int) < (ck.length : Int) := by omega
        obtain ⟨g, o, rfl, cc⟩ := HI.out k hkl
        simp only [getD_dflt ck k 0 (-1) hkl] at cc
        obtain ⟨x, hx⟩ : ∃ x, x = ck.getD k (-1) := ⟨_, rfl⟩
        rw [← hx] at cc
        have Hx : Hid (x = ck.getD k (-1)) := hx
        clear hx
        by_cases he : x = -1
        · have HK3 : Hid (∀ j c, j < i + 1 → l[j]? = some c → ck.getD (b + c) (-1) = -1) := HK2.out (by rw [← Hx.out]; exact he)
          have q1 : (x == -1) = true := by simpa using he
          have q2 : (x != -1) = false := by simp [he]
          clear he Hx HK HK2
          go_wp2_with fail
          go_round
          case rel => exact ⟨i + 1, by omega, by go_num, HK3⟩
          case measure => simp [intOf]; omega
        · have q1 : (x == -1) = false := by simpa using he
          have q2 : (x != -1) = true := by simp [he]
          have HF : Hid (Pk.fr ck b l = false) := by
            show _ = _
            rw [← Bool.not_eq_true, Pk.fr_iff]
            exact fun h => he (by rw [Hx.out, Hk.out]; exact h c (List.mem_of_getElem? Hc.out))
          clear he Hx HK HK2
          go_wp2_with fail
          go_ret
          exact ⟨ret_bool HF.out.symm, rfl⟩
      · have hkl' : ¬ (k : Int) < (ck.length : Int) := by omega
        have HK3 : Hid (∀ j c, j < i + 1 → l[j]? = some c → ck.getD (b + c) (-1) = -1) := HK2.out (Pk.getD_out _ _ _ (by omega))
        clear HK HK2
        go_wp2_with fail
        go_round
        case rel => exact ⟨i + 1, by omega, by go_num, HK3⟩
        case measure => simp [intOf]; omega
    · have hge : ¬ (i : Int) < (l.length : Int) := by omega
      have HF : Hid (Pk.fr ck b l = true) := by
        show _ = _
        rw [Pk.fr_iff]
        intro c hc
        obtain ⟨j, hj, hjc⟩ := List.getElem_of_mem hc
        exact HK.out j c (by omega) (by rw [List.getElem?_eq_getElem hj, hjc])
      clear HK
      go_wp2_with fail
      go_ret
      exact ⟨ret_bool HF.out.symm, rfl⟩

set_option maxRecDepth 100000 in
set_option maxHeartbeats 4000000 in
theorem baseFor_any (base cb : Nat) (vc vn : Value) (ck nt : List Int) (B : Nat) (v : Value) (l : List Nat) (w : World) (h : Cs base cb vc vn ck nt w) (hv : OwnL B v (natI l) w) (hck : ck.length ≤ 100000) (hl : l.length ≤ 256) (hl2 : ∀ c ∈ l, c < 256) :
    Calls Try.prog 107 #[.pointer (some ⟨cb, 0, none⟩), v] w fun e w' => e = .returned (.int .i64 (Pk.bas ck l)) ∧ w' = w := by
  have HF : Hid (∀ b : Nat, b ≤ 100000 → Calls Try.prog 132 #[.pointer (some ⟨cb, 0, none⟩), .int .i64 b, v] w fun e w' => e = .returned (.bool (Pk.fr ck b l)) ∧ w' = w) := fun b hb => fits_any base cb vc vn ck nt B b v l w h hv hb hck hl hl2
  obtain ⟨ad, cap, rfl, _⟩ := h.c.il
  have c0 := (h.s 0 _ rfl).1
  clear h hv
  go_enter Try.func107, Try.ntmps107
  go_wp2_with fail
  go_loop [5] (fun x => ∃ b : Nat, b ≤ ck.length ∧ x = .int .i64 b ∧ Hid (∀ i, i < b → Pk.fr ck i l = false)) (fun x => ck.length - (intOf x).toNat)
  case atStart => exact ⟨0, by omega, rfl, fun i hi => by omega⟩
  case round =>
    obtain ⟨b, hb, rfl, HK⟩ := hrel
    by_cases hlt : b < ck.length
    · have hlt' : (b : Int) < (ck.length : Int) := by omega
      go_wp2_with fail
      refine (HF.out b (by omega)).mono ?_
      rintro e w' ⟨rfl, rfl⟩
      by_cases hf : Pk.fr ck b l = true
      · have HB : Hid (Pk.bas ck l = b) := Pk.bas_eq hf HK.out
        rw [hf]
        clear hf HK
        go_wp2_with fail
        go_ret
        exact ⟨ret_int (by rw [HB.out]), rfl⟩
      · have hf' : Pk.fr ck b l = false := by simpa using hf
        rw [hf']
        have HK2 : Hid (∀ i, i < b + 1 → Pk.fr ck i l = false) := fun i hi => by
          by_cases e : i = b
          · subst e; exact hf'
          · exact HK.out i (by omega)
        clear hf hf' HK
        go_wp2_with fail
        go_round
        case rel => exact ⟨b + 1, by omega, by go_num, HK2⟩
        case measure => simp [intOf]; omega
    · have hge : ¬ (b : Int) < (ck.length : Int) := by omega
      have HB : Hid (Pk.bas ck l = ck.length) := by
        have hbe : b = ck.length := by omega
        subst hbe
        exact Pk.bas_eq (Pk.fr_len ck l) HK.out
      clear HK
      go_wp2_with fail
      go_ret
      exact ⟨ret_int (by rw [HB.out]), rfl⟩
end Go.Proofs.Ytoaaklhpmhjhkaa
