/-
  Tokens; the program's tokenAt.
-/
import Derived.Test.YtoaaklhpmhjhkabStB
import Derived.Test.YtoaaklhpmhjhkabTcA
namespace Go.Proofs.Ytoaaklhpmhjhkab
open Go.RowKit

/-- The token at i: from place j on, in state s, with the rule r and the length l so far. -/
def tkF (T : Tb) (x : ByteArray) (i : Nat) : Nat → Nat → Int → Int → Int → Int × Int
  | 0, _, _, r, l => (r, l)
  | u + 1, j, s, r, l => if j < x.size then
      (if stp T s (fb x j) = -1 then (r, l) else if lbl T (stp T s (fb x j)) = -1 then tkF T x i u (j + 1) (stp T s (fb x j)) r l else tkF T x i u (j + 1) (stp T s (fb x j)) (lbl T (stp T s (fb x j))) ((j : Int) + 1 - i))
    else (r, l)
theorem tkF_end {T : Tb} {x : ByteArray} {i u j : Nat} {s r l : Int} (h : x.size ≤ j) : tkF T x i u j s r l = (r, l) := by
  cases u
  · rfl
  · rw [tkF, if_neg (by omega)]
theorem tkF_stop {T : Tb} {x : ByteArray} {i u j : Nat} {s r l : Int} (h : j < x.size) (hs : stp T s (fb x j) = -1) : tkF T x i (u + 1) j s r l = (r, l) := by
  rw [tkF, if_pos h, if_pos hs]
theorem tkF_pass {T : Tb} {x : ByteArray} {i u j : Nat} {s r l : Int} (h : j < x.size) (hs : stp T s (fb x j) ≠ -1) (hl : lbl T (stp T s (fb x j)) = -1) : tkF T x i (u + 1) j s r l = tkF T x i u (j + 1) (stp T s (fb x j)) r l := by
  rw [tkF, if_pos h, if_neg hs, if_pos hl]
theorem tkF_take {T : Tb} {x : ByteArray} {i u j : Nat} {s r l : Int} (h : j < x.size) (hs : stp T s (fb x j) ≠ -1) (hl : lbl T (stp T s (fb x j)) ≠ -1) : tkF T x i (u + 1) j s r l = tkF T x i u (j + 1) (stp T s (fb x j)) (lbl T (stp T s (fb x j))) ((j : Int) + 1 - i) := by
  rw [tkF, if_pos h, if_neg hs, if_neg hl]
theorem tkF_bd {T : Tb} {x : ByteArray} {i : Nat} : ∀ (u j : Nat) (s r l : Int), i ≤ j → 1 ≤ l → (i : Int) + l ≤ x.size → 1 ≤ (tkF T x i u j s r l).2 ∧ (i : Int) + (tkF T x i u j s r l).2 ≤ x.size
  | 0, _, _, _, _, _, h1, h2 => ⟨h1, h2⟩
  | u + 1, j, s, r, l, hj, h1, h2 => by
    rw [tkF]
    split
    · split
      · exact ⟨h1, h2⟩
      · split
        · exact tkF_bd u (j + 1) _ _ _ (by omega) h1 h2
        · exact tkF_bd u (j + 1) _ _ _ (by omega) (by omega) (by omega)
    · exact ⟨h1, h2⟩
/-- The token at i. -/
def tkAt (T : Tb) (x : ByteArray) (i : Nat) : Int × Int := tkF T x i (x.size - i) i 0 (-1) 1
theorem tkAt_bd (T : Tb) (x : ByteArray) (i : Nat) (h : i < x.size) : 1 ≤ (tkAt T x i).2 ∧ (i : Int) + (tkAt T x i).2 ≤ x.size := tkF_bd _ _ _ _ _ (Nat.le_refl _) (by omega) (by omega)
theorem info_tok : (Try.prog.info? 49).map (·.size) = some 3 := by kernel_rfl
set_option maxRecDepth 100000 in
theorem zero_tok (w : World) : (zeroValue 49).run Try.prog w = .ok (.agg #[.int .i64 0, .int .i64 0, .int .i64 0]) w := by
  go_simp
theorem tok_there (w : World) (a b c : Int) (t : TypeId) : (w.alloc (.cells #[.int .i64 a, .int .i64 b, .int .i64 c] t)).there w.heap.size 0 3 := fun j hj => by
  rcases j with _ | _ | _ | j <;> first | (refine ⟨?_, ?_⟩ <;> go_simp) | omega
theorem TC.there {t : Nat} {L : List Value} {w : World} (h : TC t L w) : w.there t 0 L.length := fun j hj => by
  rw [Nat.zero_add]
  obtain ⟨h1, h2⟩ := h j L[j] (List.getElem?_eq_getElem hj)
  exact ⟨by rw [h1]; rfl, h2⟩
/-- What tokenAt has at hand. -/
structure TS (w : World) (r i l : Int) (W : World) : Prop where
  z : W.there w.heap.size 0 3
  t : TC (w.heap.size + 1) [.int .i64 r, .int .i64 i, .int .i64 l] W
  b : Below w.heap.size w W
theorem TS.set0 {w : World} {r i l : Int} {W : World} (h : TS w r i l W) (x : Int) : TS w x i l (W.setCell ⟨w.heap.size + 1, 0, none⟩ (.int .i64 x)) :=
  ⟨fun j hj => by rw [World.cell?_setCell_other _ _ _ _ (by intro he; have h1 := congrArg Addr.block he; simp at h1), World.frozen?_setCell]; exact h.z j hj, h.t.set 0 (by simp) _, h.b.setCell (p := ⟨w.heap.size + 1, 0, none⟩) (Nat.le_succ _) _⟩
theorem TS.set2 {w : World} {r i l : Int} {W : World} (h : TS w r i l W) (x : Int) : TS w r i x (W.setCell ⟨w.heap.size + 1, 2, none⟩ (.int .i64 x)) :=
  ⟨fun j hj => by rw [World.cell?_setCell_other _ _ _ _ (by intro he; have h1 := congrArg Addr.block he; simp at h1), World.frozen?_setCell]; exact h.z j hj, h.t.set 2 (by simp) _, h.b.setCell (p := ⟨w.heap.size + 1, 2, none⟩) (Nat.le_succ _) _⟩
theorem TS.below {w : World} {r i l : Int} {W W' : World} (h : TS w r i l W) (hW : Below W.heap.size W W') : TS w r i l W' :=
  ⟨there_below h.z (by omega) hW, h.t.below hW, h.b.trans (hW.mono h.b.size)⟩
/-- The token goes out. -/
theorem TS.out {w : World} {r i l : Int} {W : World} (h : TS w r i l W) : ∃ W', W' = W.setCells w.heap.size 0 [.int .i64 r, .int .i64 i, .int .i64 l] ∧ (loadVar 49 ⟨w.heap.size, 0, none⟩).run Try.prog W' = .ok (.agg #[.int .i64 r, .int .i64 i, .int .i64 l]) W' ∧ Below w.heap.size w W' := by
  refine ⟨_, rfl, ?_, ?_⟩
  · exact run_loadVar_mid (P := Try.prog) _ w.heap.size 0 49 [.int .i64 r, .int .i64 i, .int .i64 l] _ (World.rangeAt_setCells_same W w.heap.size 0 [.int .i64 r, .int .i64 i, .int .i64 l] h.z) Try.underlying49 rfl info_tok
  · exact h.b.grown (setCells_grown w.heap.size [.int .i64 r, .int .i64 i, .int .i64 l] 0 W) h.b.size (fun q hq => by cases hq; exact Nat.le_refl _)

set_option maxRecDepth 100000 in
set_option maxHeartbeats 4000000 in
theorem tokenAt_any (b : Nat) (T : Tb) (A : TbA) (x : ByteArray) (i : Nat) (w : World) (hS : Snd T) (hA : TbAt b T A w) (hI : TbIn T A w) (hx : x.size ≤ 2000) (hi : i < x.size) :
    Calls Try.prog 56 #[.pointer (some ⟨b, 0, none⟩), .string x, .int .i64 i] w fun e w' => e = .returned (.agg #[.int .i64 (tkAt T x i).1, .int .i64 i, .int .i64 (tkAt T x i).2]) ∧ Below w.heap.size w w' := by
  have hz := zero_tok
  obtain ⟨R, hR⟩ : ∃ R, R = tkAt T x i := ⟨_, rfl⟩
  rw [← hR]
  have HR : Hid (R = tkF T x i (x.size - i) i 0 (-1) 1) := hR
  clear hR
  have H1 : Hid (∀ w' (s c : Int), Below w.heap.size w w' → Calls Try.prog 75 #[.pointer (some ⟨b, 0, none⟩), .int .i64 s, .int .i64 c] w' fun e w'' => e = .returned (.int .i64 (stp T s c)) ∧ w'' = w') := fun w' s c h' => tStep_any b T A s c w' hS (hA.below h') (hI.below h')
  have H2 : Hid (∀ w' (s : Int), Below w.heap.size w w' → Calls Try.prog 76 #[.pointer (some ⟨b, 0, none⟩), .int .i64 s] w' fun e w'' => e = .returned (.int .i64 (lbl T s)) ∧ w'' = w') := fun w' s h' => tLabel_any b T A s w' (hA.below h') (hI.below h')
  clear hA hI hS
  obtain ⟨W, hW⟩ : ∃ W, W = (w.alloc (.cells #[.int .i64 0, .int .i64 0, .int .i64 0] 49)).alloc (.cells #[.int .i64 (-1), .int .i64 i, .int .i64 1] 49) := ⟨_, rfl⟩
  have S0 : TS w (-1) i 1 W := by
    have hs1 : (w.alloc (.cells #[.int .i64 0, .int .i64 0, .int .i64 0] 49)).heap.size = w.heap.size + 1 := by simp
    rw [hW]
    refine ⟨there_below (tok_there w 0 0 0 _) (by omega) (bel_box _ _), ?_, (bel_box w _).trans ((bel_box _ _).mono (by simp))⟩
    rw [← hs1]
    exact TC.boxed _ [.int .i64 (-1), .int .i64 i, .int .i64 1] _
  go_enter Try.func56, Try.ntmps56
  go_wp2_with fail
  rw [← hW]
  clear hW
  go_loopw [8, 9] (fun st jv w' => ∃ (u j : Nat) (s r l : Int), st = .int .i64 s ∧ jv = .int .i64 j ∧ i ≤ j ∧ j ≤ x.size ∧ x.size ≤ u + j ∧ TS w r i l w' ∧ Hid (R = tkF T x i u j s r l)) (fun _ jv _ => x.size - (intOf jv).toNat)
  case atStart => exact ⟨x.size - i, i, 0, -1, 1, rfl, rfl, Nat.le_refl _, by omega, by omega, S0, HR⟩
  case round =>
    clear HR S0
    obtain ⟨u, j, s, r, l, rfl, rfl, hij, hj, hu, hS, HR⟩ := hrel
    by_cases hlt : j < x.size
    · have hlt' : (j : Int) < (x.size : Int) := by omega
      rcases u with _ | u
      · omega
      have HF : Hid ((x[j].toNat : Int) = fb x j) := fb_at x j hlt
      have hbx := x[j].toNat_lt
      go_wp2_with fail
      refine (H1.out _ s _ hS.b).mono ?_
      rintro e w1 ⟨rfl, rfl⟩
      rw [HF.out]
      clear hbx
      obtain ⟨s', hs'⟩ : ∃ s', s' = stp T s (fb x j) := ⟨_, rfl⟩
      rw [← hs']
      have Hs : Hid (s' = stp T s (fb x j)) := hs'
      clear hs'
      by_cases hn : s' = -1
      · have HR1 : Hid (R = (r, l)) := by show _ = _; rw [HR.out, tkF_stop hlt (by rw [← Hs.out]; exact hn)]
        have q1 : (s' == -1) = true := by simpa using hn
        obtain ⟨W9, hW9, hl9, hb9⟩ := hS.out
        have HW9 : Hid (W9 = w1.setCells w.heap.size 0 [.int .i64 r, .int .i64 i, .int .i64 l]) := hW9
        have HL9 : Hid ((loadVar 49 ⟨w.heap.size, 0, none⟩).run Try.prog W9 = .ok (.agg #[.int .i64 r, .int .i64 i, .int .i64 l]) W9) := hl9
        have hrg := hS.t.range
        have hth := hS.z
        clear hW9 hl9 HR Hs
        go_wp2_with (first | (refine wpList_load_mid rfl 49 _ rfl (w.heap.size + 1) 0 rfl [.int .i64 r, .int .i64 i, .int .i64 l] _ hrg Try.underlying49 rfl info_tok ?_) | (refine wpList_store_mid rfl 49 _ _ rfl w.heap.size 0 #[.int .i64 r, .int .i64 i, .int .i64 l] rfl rfl hth info_tok (by simp [Value.oneCell']) ?_; rw [List.toList_toArray, ← HW9.out]))
        refine bodyPost_ret (v := .agg #[.int .i64 r, .int .i64 i, .int .i64 l]) (eResults_load1 Try.results56 rfl HL9.out) rfl ?_
        rw [HR1.out]
        exact ⟨rfl, hb9⟩
      · have q1 : (s' == -1) = false := by simpa using hn
        go_wp2_with fail
        refine (H2.out _ s' hS.b).mono ?_
        rintro e w2 ⟨rfl, rfl⟩
        obtain ⟨r', hr'⟩ : ∃ r', r' = lbl T s' := ⟨_, rfl⟩
        rw [← hr']
        have Hr : Hid (r' = lbl T s') := hr'
        clear hr'
        by_cases hm : r' = -1
        · have HR1 : Hid (R = tkF T x i u (j + 1) s' r l) := by show _ = _; rw [HR.out, tkF_pass hlt (by rw [← Hs.out]; exact hn) (by rw [← Hs.out, ← Hr.out]; exact hm), ← Hs.out]
          have q2 : (r' == -1) = true := by simpa using hm
          have q3 : (r' != -1) = false := by simp [hm]
          clear HR Hs Hr
          go_wp2_with fail
          go_roundw
          case rel => exact ⟨u, j + 1, s', r, l, rfl, by go_num, by omega, by omega, by omega, hS, HR1⟩
          case measure => simp [intOf]; omega
        · have HR1 : Hid (R = tkF T x i u (j + 1) s' r' ((j : Int) + 1 - i)) := by show _ = _; rw [HR.out, tkF_take hlt (by rw [← Hs.out]; exact hn) (by rw [← Hs.out, ← Hr.out]; exact hm), ← Hs.out, ← Hr.out]
          have q2 : (r' == -1) = false := by simpa using hm
          have q3 : (r' != -1) = true := by simp [hm]
          obtain ⟨k0, k0f⟩ := hS.t 0 _ rfl
          obtain ⟨k2, k2f⟩ := (hS.set0 r').t 2 _ rfl
          have S2 := (hS.set0 r').set2 ((j : Int) + 1 - i)
          clear HR Hs Hr
          go_wp2_with fail
          go_roundw
          case rel => exact ⟨u, j + 1, s', r', (j : Int) + 1 - i, rfl, by go_num, by omega, by omega, by omega, S2, HR1⟩
          case measure => simp [intOf]; omega
    · have hge : ¬ (j : Int) < (x.size : Int) := by omega
      have HR1 : Hid (R = (r, l)) := by show _ = _; rw [HR.out, tkF_end (by omega)]
      obtain ⟨W9, hW9, hl9, hb9⟩ := hS.out
      have HW9 : Hid (W9 = wr.setCells w.heap.size 0 [.int .i64 r, .int .i64 i, .int .i64 l]) := hW9
      have HL9 : Hid ((loadVar 49 ⟨w.heap.size, 0, none⟩).run Try.prog W9 = .ok (.agg #[.int .i64 r, .int .i64 i, .int .i64 l]) W9) := hl9
      have hrg := hS.t.range
      have hth := hS.z
      clear hW9 hl9 HR
      go_wp2_with (first | (refine wpList_load_mid rfl 49 _ rfl (w.heap.size + 1) 0 rfl [.int .i64 r, .int .i64 i, .int .i64 l] _ hrg Try.underlying49 rfl info_tok ?_) | (refine wpList_store_mid rfl 49 _ _ rfl w.heap.size 0 #[.int .i64 r, .int .i64 i, .int .i64 l] rfl rfl hth info_tok (by simp [Value.oneCell']) ?_; rw [List.toList_toArray, ← HW9.out]))
      refine bodyPost_ret (v := .agg #[.int .i64 r, .int .i64 i, .int .i64 l]) (eResults_load1 Try.results56 rfl HL9.out) rfl ?_
      rw [HR1.out]
      exact ⟨rfl, hb9⟩
end Go.Proofs.Ytoaaklhpmhjhkab
