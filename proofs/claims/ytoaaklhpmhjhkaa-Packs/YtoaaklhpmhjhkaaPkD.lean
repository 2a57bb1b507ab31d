/-
  The program's put.
-/
import Derived.Test.YtoaaklhpmhjhkaaPkC
namespace Go.Proofs.Ytoaaklhpmhjhkaa
open Go.RowKit
open Bm

theorem Cs.first {base cb : Nat} {vc vn : Value} {ck nt : List Int} {W : World} (x : Int) (h : Cs base cb vc vn ck nt W) (hb : base ≤ W.heap.size) :
    OwnL base vc ck (W.alloc (.cells #[.int .i64 x] 3)) ∧ (W.alloc (.cells #[.int .i64 x] 3)).cell? ⟨W.heap.size, 0, none⟩ = some (.int .i64 x) ∧ base ≤ (W.alloc (.cells #[.int .i64 x] 3)).heap.size ∧
    ∀ w5, (W.alloc (.cells #[.int .i64 x] 3)).grownBy w5 vc.ownBlock → w5.cell? ⟨cb, 0, none⟩ = some vc ∧ w5.frozen? ⟨cb, 0, none⟩ = false := by
  have hx := box_bel W (.cells #[.int .i64 x] 3)
  refine ⟨h.c.below hx, by rw [World.cell?_alloc_new]; rfl, Nat.le_trans hb hx.size, fun w5 hg => ?_⟩
  have h2 : TC cb [vc, vn] w5 := (h.s.below hx).block (hg.block _ (Nat.lt_of_lt_of_le h.s.lt hx.size) (fun e => by have := (h.c.blk _ e.symm).1; have := h.lt; omega))
  exact h2 0 _ rfl
theorem Cs.next {base cb : Nat} {vc vn : Value} {ck nt : List Int} {w5 : World} {a : Addr} {u : Value} (x : Int) (h : Cs base cb vc vn ck nt (w5.setCell a u)) (hb : base ≤ w5.heap.size) :
    OwnL base vn nt ((w5.setCell a u).alloc (.cells #[.int .i64 x] 3)) ∧ ((w5.setCell a u).alloc (.cells #[.int .i64 x] 3)).cell? ⟨w5.heap.size, 0, none⟩ = some (.int .i64 x) ∧ base ≤ ((w5.setCell a u).alloc (.cells #[.int .i64 x] 3)).heap.size ∧
    ∀ w7, ((w5.setCell a u).alloc (.cells #[.int .i64 x] 3)).grownBy w7 vn.ownBlock → w7.cell? ⟨cb, 1, none⟩ = some vn ∧ w7.frozen? ⟨cb, 1, none⟩ = false := by
  have hsz : (w5.setCell a u).heap.size = w5.heap.size := by simp [World.setCell]
  generalize w5.setCell a u = W at *
  have hx := box_bel W (.cells #[.int .i64 x] 3)
  refine ⟨h.n.below hx, by rw [← hsz, World.cell?_alloc_new]; rfl, Nat.le_trans (by omega) hx.size, fun w7 hg => ?_⟩
  have h2 : TC cb [vc, vn] w7 := (h.s.below hx).block (hg.block _ (Nat.lt_of_lt_of_le h.s.lt hx.size) (fun e => by have := (h.n.blk _ e.symm).1; have := h.lt; omega))
  exact h2 1 _ rfl
/-- How long the list at a place is. -/
def lenAt (w : World) (a : Addr) : Nat := match w.cell? a with | some (.slice _ n _) => n | _ => 0
theorem lenAt_of {w : World} {a : Addr} {d : Option Addr} {n c : Nat} (h : w.cell? a = some (.slice d n c)) : lenAt w a = n := by unfold lenAt; rw [h]
theorem rep_push (l : List Int) (j : Nat) : l ++ List.replicate j (-1) ++ [-1] = l ++ List.replicate (j + 1) (-1) := by
  rw [List.append_assoc, List.replicate_succ']

set_option maxRecDepth 100000 in
set_option maxHeartbeats 4000000 in
theorem put_any (base cb : Nat) (vc vn : Value) (ck nt : List Int) (k : Nat) (s x : Int) (w : World) (h : Cs base cb vc vn ck nt w) (he : ck.length = nt.length) (hk : k ≤ 100000) (hck : ck.length ≤ 100000) (hbw : base ≤ w.heap.size) :
    Calls Try.prog 109 #[.pointer (some ⟨cb, 0, none⟩), .int .i64 k, .int .i64 s, .int .i64 x] w fun e w' => e = .returned (.tuple #[]) ∧ ∃ vc' vn', Cs base cb vc' vn' (Pk.put ck k s) (Pk.put nt k x) w' ∧ Putted cb vc vn vc' vn' w w' := by
  have H0 : Hid (Cs base cb vc vn ck nt w) := h
  have He : Hid (ck.length = nt.length) := he
  clear h
  go_enter Try.func109, Try.ntmps109
  go_wp2_with fail
  go_loopw [] (fun w' => ∃ (j : Nat) (vc' vn' : Value), j ≤ k + 1 - ck.length ∧ Cs base cb vc' vn' (ck ++ List.replicate j (-1)) (nt ++ List.replicate j (-1)) w' ∧ Putted cb vc vn vc' vn' w w') (fun w' => k + 1 - lenAt w' ⟨cb, 0, none⟩)
  case atStart => exact ⟨0, vc, vn, by omega, by simpa using H0.out, Putted.refl _ _ _ _⟩
  case round =>
    obtain ⟨j, vc', vn', hj, S, P⟩ := hrel
    obtain ⟨L, hL⟩ : ∃ L, L = ck ++ List.replicate j (-1) := ⟨_, rfl⟩
    obtain ⟨M, hM⟩ : ∃ M, M = nt ++ List.replicate j (-1) := ⟨_, rfl⟩
    have hLl : L.length = ck.length + j := by rw [hL]; simp
    have hMl : M.length = ck.length + j := by rw [hM, he]; simp
    rw [← hL, ← hM] at S
    have HL : Hid (L = ck ++ List.replicate j (-1)) := hL
    have HM : Hid (M = nt ++ List.replicate j (-1)) := hM
    have HLl : Hid (L.length = ck.length + j) := hLl
    have HMl : Hid (M.length = ck.length + j) := hMl
    have hLb : L.length ≤ 200002 := by omega
    have hMb : M.length ≤ 200002 := by omega
    have hLk : L.length ≤ k → j + 1 ≤ k + 1 - ck.length := by omega
    have hLj : ¬ L.length ≤ k → j = k + 1 - ck.length := by omega
    have hkM : ¬ L.length ≤ k → k < M.length := by omega
    have HLk : Hid (L.length ≤ k → j + 1 ≤ k + 1 - ck.length) := hLk
    have HLj : Hid (¬ L.length ≤ k → j = k + 1 - ck.length) := hLj
    have HkM : Hid (¬ L.length ≤ k → k < M.length) := hkM
    clear hL hM H0 he hLl hMl hLk hLj hkM
    obtain ⟨ad, cp, rfl, _⟩ := S.c.il
    obtain ⟨an, cn, rfl, _⟩ := S.n.il
    have c0 := (S.s 0 _ rfl).1
    have c1 := (S.s 1 _ rfl).1
    have hbr : base ≤ wr.heap.size := Nat.le_trans hbw P.bel.size
    have hmes := lenAt_of c0
    have Hmes : Hid (lenAt wr ⟨cb, 0, none⟩ = L.length) := hmes
    clear hmes
    by_cases hlt : L.length ≤ k
    · have hlt' : (L.length : Int) ≤ (k : Int) := by omega
      obtain ⟨hO1, hnw, hbs, hk1⟩ := S.first (-1) hbr
      have HK1 : Hid (∀ w5, (wr.alloc (.cells #[.int .i64 (-1)] 3)).grownBy w5 (Value.slice ad L.length cp).ownBlock → w5.cell? ⟨cb, 0, none⟩ = some (.slice ad L.length cp) ∧ w5.frozen? ⟨cb, 0, none⟩ = false) := hk1
      have HX : Hid (∀ g cap w5, OwnL base (.slice (some ⟨g, 0, none⟩) (L.length + 1) cap) (L ++ [-1]) w5 → (wr.alloc (.cells #[.int .i64 (-1)] 3)).grownBy w5 (Value.slice ad L.length cp).ownBlock → ((Value.slice ad L.length cp).ownBlock = some g ∨ g = (wr.alloc (.cells #[.int .i64 (-1)] 3)).heap.size) →
          Cs base cb (.slice (some ⟨g, 0, none⟩) (L.length + 1) cap) (.slice an M.length cn) (L ++ [-1]) M (w5.setCell ⟨cb, 0, none⟩ (.slice (some ⟨g, 0, none⟩) (L.length + 1) cap)) ∧ Putted cb vc vn (.slice (some ⟨g, 0, none⟩) (L.length + 1) cap) (.slice an M.length cn) w (w5.setCell ⟨cb, 0, none⟩ (.slice (some ⟨g, 0, none⟩) (L.length + 1) cap))) := fun g cap w5 h1 h2 h3 => by
        have h := S.pushC rfl h1 h2 h3
        exact ⟨h.1, P.trans h.2⟩
      clear S P hk1
      go_wp2_with (first
        | (at_builtin; refine wpList_append_int (by rfl) _ _ (by rfl) base (.slice ad L.length cp) L (by rfl) hO1 (by omega) wr.heap.size (-1) (by rfl) hnw hbs _ rfl ?_; intro g cap w5 hO5 hgrow hgb hl5; obtain ⟨c5, c5f⟩ := HK1.out w5 hgrow; obtain ⟨S5, P5⟩ := HX.out g cap w5 hO5 hgrow hgb; have c6 := (S5.s 1 _ rfl).1; obtain ⟨hO6, hn6, hb6, hk6⟩ := S5.next (-1) (Nat.le_trans (hO5.blk g rfl).1 (Nat.le_of_lt hl5)); have HK6 : Hid (∀ w7, ((w5.setCell ⟨cb, 0, none⟩ (.slice (some ⟨g, 0, none⟩) (L.length + 1) cap)).alloc (.cells #[.int .i64 (-1)] 3)).grownBy w7 (Value.slice an M.length cn).ownBlock → w7.cell? ⟨cb, 1, none⟩ = some (.slice an M.length cn) ∧ w7.frozen? ⟨cb, 1, none⟩ = false) := hk6; clear hk6 hO1)
        | (at_builtin; refine wpList_append_int (by rfl) _ _ (by rfl) base (.slice an M.length cn) M (by rfl) hO6 (by omega) w5.heap.size (-1) (by rfl) hn6 hb6 _ rfl ?_; intro g7 cap7 w7 hO7 hgrow7 hgb7 hl7; obtain ⟨c7, c7f⟩ := HK6.out w7 hgrow7))
      obtain ⟨S7, P7⟩ := S5.pushN rfl hO7 hgrow7 hgb7
      have P8 := P5.trans P7
      have hm8 := lenAt_of (S7.s 0 _ rfl).1
      rw [HL.out, HM.out, rep_push, rep_push] at S7
      rw [← HL.out, ← HM.out] at S7
      go_roundw
      case rel => exact ⟨j + 1, _, _, HLk.out hlt, S7, P8⟩
      case measure =>
        rw [hm8, Hmes.out]
        omega
    · have hge : ¬ (L.length : Int) ≤ (k : Int) := by omega
      have hjk : j = k + 1 - ck.length := HLj.out hlt
      have hkm0 : k < M.length := HkM.out hlt
      have HP1 : Hid (L.set k s = Pk.put ck k s) := by show _ = _; rw [HL.out, hjk]; rfl
      have HP2 : Hid (M.set k x = Pk.put nt k x) := by show _ = _; rw [HM.out, hjk, He.out]; rfl
      obtain ⟨g, cg, hg⟩ := S.c.some_ (by omega)
      obtain ⟨g', cg', hg'⟩ := S.n.some_ (by omega)
      cases hg
      cases hg'
      obtain ⟨k1, k1f⟩ := S.c.at_ k (by omega)
      obtain ⟨S1, P1⟩ := S.setC k s
      have d1 := (S1.s 1 _ rfl).1
      obtain ⟨k2, k2f⟩ := S1.n.at_ k (by omega)
      obtain ⟨S2, P2⟩ := S1.setN k x
      have hkl : (k : Int) < (L.length : Int) := by omega
      have hkm : (k : Int) < (M.length : Int) := by omega
      have P3 := (P.trans P1).trans P2
      rw [HP1.out, HP2.out] at S2
      have HS2 : Hid (Cs base cb (.slice (some ⟨g, 0, none⟩) L.length cp) (.slice (some ⟨g', 0, none⟩) M.length cn) (Pk.put ck k s) (Pk.put nt k x) ((wr.setCell ⟨g, k, none⟩ (.int .i64 s)).setCell ⟨g', k, none⟩ (.int .i64 x))) := S2
      have HP3 : Hid (Putted cb vc vn (.slice (some ⟨g, 0, none⟩) L.length cp) (.slice (some ⟨g', 0, none⟩) M.length cn) w ((wr.setCell ⟨g, k, none⟩ (.int .i64 s)).setCell ⟨g', k, none⟩ (.int .i64 x))) := P3
      clear S S1 P1 S2 P2 P3 P HP1 HP2 Hmes hjk
      go_wp2_with fail
      go_end0
      exact ⟨rfl, _, _, HS2.out, HP3.out⟩
end Go.Proofs.Ytoaaklhpmhjhkaa
