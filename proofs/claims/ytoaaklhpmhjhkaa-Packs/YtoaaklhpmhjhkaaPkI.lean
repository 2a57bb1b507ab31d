/-
  The reference's copied, differ, free.
-/
import Derived.Test.YtoaaklhpmhjhkaaPkH
namespace Go.Proofs.Ytoaaklhpmhjhkaa
open Go.RowKit
open Bm

theorem refCopied_in (ad : Option Addr) (n cap : Nat) (f : Nat → Int) (w w2 : World) (hn : n ≤ 17592186044416)
    (hcp : (Builtin.copy_ #[24, 24] 3 #[.slice (some ⟨w.heap.size, 0, none⟩) n n, .slice ad n cap]).run Try.prog (w.alloc (.cells (blankI n) 3)) = .ok (goInt n) w2)
    (hW2 : Below w.heap.size w w2) (hR : NRow w.heap.size f n w2) :
    Calls Try.prog 55 #[.slice ad n cap] w fun e w' => e = .returned (.slice (some ⟨w.heap.size, 0, none⟩) n n) ∧ NRow w.heap.size f n w' ∧ Below w.heap.size w w' := by
  have hmk : (Instr.makeSlice 24 (.int .i64 (n : Int)) (.int .i64 (n : Int))).run Try.prog w = .ok (.slice (some ⟨w.heap.size, 0, none⟩) n n) (w.alloc (.cells (blankI n) 3)) := run_blankI w n hn
  go_enter Try.func55, Try.ntmps55
  go_wp2_with fail
  go_ret
  exact ⟨rfl, hR, hW2⟩
theorem refCopied_any (ad : Option Addr) (n cap : Nat) (f : Nat → Int) (w : World) (hn : n ≤ 17592186044416) (hr : IL ad f n w) :
    Calls Try.prog 55 #[.slice ad n cap] w fun e w' => e = .returned (.slice (some ⟨w.heap.size, 0, none⟩) n n) ∧ NRow w.heap.size f n w' ∧ Below w.heap.size w w' := by
  obtain ⟨w2, h1, h2, h3⟩ := run_copyI ad n cap n f w (Nat.le_refl _) hr
  exact refCopied_in ad n cap f w w2 hn h1 h2 (h3.congr (fun k hk => by simp [hk]))

set_option maxRecDepth 100000 in
set_option maxHeartbeats 4000000 in
theorem refDiffer_any (M : Mc) (A : McA) (s : Nat) (d : Int) (w : World) (hS : SndM M) (hI : McIn M A w) (hs : s < M.nlb) (hd : d = -1 ∨ ∃ m : Nat, d = m ∧ m < M.nlb) :
    Calls Try.prog 57 #[.agg (A.cells M), .int .i64 M.k, .int .i64 s, .int .i64 d] w fun e w' => ∃ v, e = .returned v ∧ OwnL w.heap.size v (natI (Pk.dif M.nx M.k s d M.k)) w' ∧ Below w.heap.size w w' := by
  obtain ⟨W, hW⟩ : ∃ W, W = w.alloc (.cells (A.cells M) 49) := ⟨_, rfl⟩
  have x0 : Below w.heap.size w W := by rw [hW]; exact bel_box _ _
  have hA : McAt w.heap.size M A W := by rw [hW]; exact McAt.boxed M A w _
  have hI2 := hI.below x0
  have hlb := hS.hd.2.1
  have hk := hS.k1
  have hnn : M.nnx ≤ 24576 := by rw [hS.e]; exact Nat.mul_le_mul hlb.2 hk.2
  have Hrow : Hid (∀ m c, m < M.nlb → c < M.k → m * M.k + c < M.nnx) := fun m c hm hc => by
    have : (m + 1) * M.k ≤ M.nlb * M.k := Nat.mul_le_mul_right _ hm
    rw [hS.e]
    rw [Nat.succ_mul] at this
    omega
  have HAt : Hid (∀ w', Below W.heap.size W w' → w'.cell? ⟨w.heap.size, 3, none⟩ = some (.slice A.a3 M.nnx A.c3)) := fun w' h' => (hA.below h').c3
  have HIL : Hid (∀ w', Below W.heap.size W w' → IL A.a3 M.nx M.nnx w') := fun w' h' => (hI2.below h').l3
  have HX : Hid (Below w.heap.size w W) := x0
  have H0 : Hid (Below W.heap.size W W) := Below.refl _ _
  obtain ⟨ps, hps⟩ : ∃ ps : Nat, ps = s * M.k := ⟨_, rfl⟩
  have ips : (s : Int) * (M.k : Int) = (ps : Int) := by rw [hps]; simp
  have hpsb : ps ≤ 24576 := by rw [hps]; exact Nat.mul_le_mul (show s ≤ 96 by omega) hk.2
  have Hps : Hid (ps = s * M.k) := hps
  unfold McA.cells at hW ⊢
  clear hA hI2 hI hS x0 hps
  go_enter Try.func57, Try.ntmps57
  go_wp2_with fail
  rw [← hW]
  clear hW
  go_loopw [9, 10] (fun v x w' => ∃ k : Nat, k ≤ M.k ∧ x = .int .i64 k ∧ OwnL W.heap.size v (natI (Pk.dif M.nx M.k s d k)) w' ∧ Below W.heap.size W w') (fun _ x _ => M.k - (intOf x).toNat)
  case atStart => exact ⟨0, by omega, rfl, OwnL.nil _ _, H0.out⟩
  case round =>
    obtain ⟨c, hc, rfl, hO, hB⟩ := hrel
    by_cases hlt : c < M.k
    · have hlt' : (c : Int) < (M.k : Int) := by omega
      have m3 := HAt.out wr hB
      have hqs : ps + c < M.nnx := by rw [Hps.out]; exact Hrow.out s c hs hlt
      obtain ⟨q, hq⟩ : ∃ q : Nat, q = ps + c := ⟨_, rfl⟩
      have iq : (ps : Int) + (c : Int) = (q : Int) := by omega
      have hqn : q < M.nnx := by omega
      have hqn' : (q : Int) < (M.nnx : Int) := by omega
      obtain ⟨g, o, hg, cq⟩ := HIL.out wr hB q hqn
      have hld : Pk.ld M.nx M.k (s : Int) c = M.nx q := by rw [Pk.ld_nat, hq, Hps.out]
      have hdl := Pk.dif_len M.nx M.k s d c
      have HE : Hid (∀ y, Pk.ld M.nx M.k d c = y → (M.nx q = y → Pk.dif M.nx M.k s d (c + 1) = Pk.dif M.nx M.k s d c) ∧ (¬ M.nx q = y → Pk.dif M.nx M.k s d (c + 1) = Pk.dif M.nx M.k s d c ++ [c])) := fun y hy => ⟨fun h => Pk.dif_eq (by rw [hld, hy]; exact h), fun h => Pk.dif_ne (by rw [hld, hy]; exact h)⟩
      rw [hg] at m3
      generalize M.nx q = z at *
      clear hld hq hqs hg
      rcases hd with rfl | ⟨m, rfl, hm⟩
      · have hy : Pk.ld M.nx M.k (-1) c = -1 := Pk.ld_none _ _ _
        obtain ⟨h1, h2⟩ := HE.out (-1) hy
        clear hy HE
        by_cases he : z = -1
        · have e1 := h1 he
          rw [← e1] at hO
          have q1 : (z == -1) = true := by simpa using he
          have q2 : (z != -1) = false := by simp [he]
          clear h1 h2 e1 he
          go_wp2_with fail
          go_roundw
          case rel => exact ⟨c + 1, by omega, by go_num, hO, hB⟩
          case measure => simp [intOf]; omega
        · have E1 : Hid (Pk.dif M.nx M.k s (-1) (c + 1) = Pk.dif M.nx M.k s (-1) c ++ [c]) := h2 he
          have q1 : (z == -1) = false := by simpa using he
          have q2 : (z != -1) = true := by simp [he]
          have hx := box_bel wr (.cells #[.int .i64 (c : Int)] 3)
          have hO3 := hO.below hx
          have hB3 := hB.trans (hx.mono hB.size)
          have hge2 := hO3.blk
          have hnw : (wr.alloc (.cells #[.int .i64 (c : Int)] 3)).cell? ⟨wr.heap.size, 0, none⟩ = some (.int .i64 (c : Int)) := by rw [World.cell?_alloc_new]; rfl
          have hbs : W.heap.size ≤ (wr.alloc (.cells #[.int .i64 (c : Int)] 3)).heap.size := hB3.size
          clear he hx hO hB h1 h2
          go_wp2_with (first | (at_builtin; refine wpList_append_int (by rfl) _ _ (by rfl) W.heap.size u9 (natI (Pk.dif M.nx M.k s (-1) c)) (by rfl) hO3 (by rw [natI_len]; omega) wr.heap.size c (by rfl) hnw hbs _ rfl ?_; intro g5 cap5 w5 hO5 hgrow hgb hl5))
          have e1 : natI (Pk.dif M.nx M.k s (-1) c) ++ [(c : Int)] = natI (Pk.dif M.nx M.k s (-1) (c + 1)) := by rw [E1.out, natI_append]; rfl
          rw [e1] at hO5
          go_roundw
          case rel => exact ⟨c + 1, by omega, by go_num, hO5, hB3.grown hgrow hbs (fun q hq => (hge2 q hq).1)⟩
          case measure => simp [intOf]; omega
      · obtain ⟨pd, hpd⟩ : ∃ pd : Nat, pd = m * M.k := ⟨_, rfl⟩
        have ipd : (m : Int) * (M.k : Int) = (pd : Int) := by rw [hpd]; simp
        have hpdb : pd ≤ 24576 := by rw [hpd]; exact Nat.mul_le_mul (show m ≤ 96 by omega) hk.2
        obtain ⟨r, hr⟩ : ∃ r : Nat, r = pd + c := ⟨_, rfl⟩
        have ir : (pd : Int) + (c : Int) = (r : Int) := by omega
        have hrn : r < M.nnx := by rw [hr, hpd]; exact Hrow.out m c hm hlt
        have hrn' : (r : Int) < (M.nnx : Int) := by omega
        obtain ⟨g2, o2, hg2, cr⟩ := HIL.out wr hB r hrn
        have m4 := HAt.out wr hB
        rw [m4] at m3
        have hga := (Value.slice.inj (Option.some.inj m3)).1
        rw [hg2] at hga
        have hgg : g2 = g := by cases hga; rfl
        have hoo : o2 = o := by cases hga; rfl
        subst hgg
        subst hoo
        rw [hg2] at m4
        have hy : Pk.ld M.nx M.k (m : Int) c = M.nx r := by rw [Pk.ld_nat, hr, hpd]
        obtain ⟨h1, h2⟩ := HE.out _ hy
        have qm : ((m : Int) == -1) = false := by simp
        have qm2 : ((m : Int) != -1) = true := by simp
        generalize M.nx r = y at *
        clear hy HE m3 hga hg2 hr hpd
        by_cases he : z = y
        · have e1 := h1 he
          rw [← e1] at hO
          have q1 : (z == y) = true := by simpa using he
          have q2 : (z != y) = false := by simp [he]
          clear h1 h2 e1 he
          go_wp2_with fail
          go_roundw
          case rel => exact ⟨c + 1, by omega, by go_num, hO, hB⟩
          case measure => simp [intOf]; omega
        · have E1 : Hid (Pk.dif M.nx M.k s m (c + 1) = Pk.dif M.nx M.k s m c ++ [c]) := h2 he
          have q1 : (z == y) = false := by simpa using he
          have q2 : (z != y) = true := by simp [he]
          have hx := box_bel wr (.cells #[.int .i64 (c : Int)] 3)
          have hO3 := hO.below hx
          have hB3 := hB.trans (hx.mono hB.size)
          have hge2 := hO3.blk
          have hnw : (wr.alloc (.cells #[.int .i64 (c : Int)] 3)).cell? ⟨wr.heap.size, 0, none⟩ = some (.int .i64 (c : Int)) := by rw [World.cell?_alloc_new]; rfl
          have hbs : W.heap.size ≤ (wr.alloc (.cells #[.int .i64 (c : Int)] 3)).heap.size := hB3.size
          clear he hx hO hB h1 h2
          go_wp2_with (first | (at_builtin; refine wpList_append_int (by rfl) _ _ (by rfl) W.heap.size u9 (natI (Pk.dif M.nx M.k s m c)) (by rfl) hO3 (by rw [natI_len]; omega) wr.heap.size c (by rfl) hnw hbs _ rfl ?_; intro g5 cap5 w5 hO5 hgrow hgb hl5))
          have e1 : natI (Pk.dif M.nx M.k s m c) ++ [(c : Int)] = natI (Pk.dif M.nx M.k s m (c + 1)) := by rw [E1.out, natI_append]; rfl
          rw [e1] at hO5
          go_roundw
          case rel => exact ⟨c + 1, by omega, by go_num, hO5, hB3.grown hgrow hbs (fun q hq => (hge2 q hq).1)⟩
          case measure => simp [intOf]; omega
    · have hge : ¬ (c : Int) < (M.k : Int) := by omega
      have hcn : c = M.k := by omega
      go_wp2_with fail
      go_ret
      refine ⟨u9, rfl, ?_, HX.out.trans (hB.mono HX.out.size)⟩
      rw [hcn] at hO
      exact hO.mono HX.out.size

set_option maxRecDepth 100000 in
set_option maxHeartbeats 4000000 in
theorem refFree_any (B1 B2 b : Nat) (vc v : Value) (ck : List Int) (l : List Nat) (w : World) (hc : OwnL B1 vc ck w) (hv : OwnL B2 v (natI l) w) (hb : b ≤ 100000) (_hck : ck.length ≤ 100000) (hl : l.length ≤ 256) (hl2 : ∀ c ∈ l, c < 256) :
    Calls Try.prog 58 #[vc, .int .i64 b, v] w fun e w' => e = .returned (.bool (Pk.fr ck b l)) ∧ w' = w := by
  obtain ⟨ad, cap, rfl, il⟩ := hc.il
  obtain ⟨av, cv, rfl, iv⟩ := hv.il
  rw [natI_len] at iv ⊢
  have HI : Hid (IL ad (fun i => ck.getD i 0) ck.length w) := il
  have HV : Hid (IL av (fun i => (natI l).getD i 0) l.length w) := iv
  clear hc hv il iv
  go_enter Try.func58, Try.ntmps58
  go_wp2_with fail
  go_loop [7] (fun x => ∃ i : Nat, i ≤ l.length ∧ x = .int .i64 i ∧ Hid (∀ j c, j < i → l[j]? = some c → ck.getD (b + c) (-1) = -1)) (fun x => l.length - (intOf x).toNat)
  case atStart => exact ⟨0, by omega, rfl, fun j c hj => by omega⟩
  case round =>
    obtain ⟨i, hi, rfl, HK⟩ := hrel
    by_cases hlt : i < l.length
    · have hlt' : (i : Int) < (l.length : Int) := by omega
      obtain ⟨c, hc⟩ : ∃ c, l[i]? = some c := ⟨l[i], List.getElem?_eq_getElem hlt⟩
      obtain ⟨gv, ov, rfl, cv'⟩ := HV.out i hlt
      simp only [natI_at hc] at cv'
      have hc256 := hl2 c (List.mem_of_getElem? hc)
      have Hc : Hid (l[i]? = some c) := hc
      obtain ⟨k, hk⟩ : ∃ k : Nat, k = b + c := ⟨_, rfl⟩
      have Hk : Hid (k = b + c) := hk
      have ik : (b : Int) + (c : Int) = (k : Int) := by omega
      have hk5 : k ≤ 200000 := by omega
      have HK2 : Hid (ck.getD k (-1) = -1 → ∀ j c, j < i + 1 → l[j]? = some c → ck.getD (b + c) (-1) = -1) := fun h0 j c' hj hc' => by
        by_cases e : j = i
        · subst e
          rw [Hc.out] at hc'; cases hc'; rw [← Hk.out]; exact h0
        · exact HK.out j c' (by omega) hc'
      clear hc hk
      by_cases hkl : k < ck.length
      · have hkl' : (k : Int) < (ck.length : Int) := by omega
        obtain ⟨g, o, rfl, cc⟩ := HI.out k hkl
        simp only [getD_dflt ck k 0 (-1) hkl] at cc
        obtain ⟨x, hx⟩ : ∃ x, x = ck.getD k (-1) := ⟨_, rfl⟩
        rw [← hx] at cc
        have Hx : Hid (x = ck.getD k (-1)) := hx
        clear hx
        by_cases he : x = -1
        · have HK3 : Hid (∀ j c, j < i + 1 → l[j]? = some c → ck.getD (b + c) (-1) = -1) := HK2.out (by rw [← Hx.out]; exact he)
          have q1 : (x == -1) = true := by simpa using he
          have q2 : (x != -1) = false := by simp [he]
          clear he Hx HK HK2
          go_wp2_with fail
          go_round
          case rel => exact ⟨i + 1, by omega, by go_num, HK3⟩
          case measure => simp [intOf]; omega
        · have q1 : (x == -1) = false := by simpa using he
          have q2 : (x != -1) = true := by simp [he]
          have HF : Hid (Pk.fr ck b l = false) := by
            show _ = _
            rw [← Bool.not_eq_true, Pk.fr_iff]
            exact fun h => he (by rw [Hx.out, Hk.out]; exact h c (List.mem_of_getElem? Hc.out))
          clear he Hx HK HK2
          go_wp2_with fail
          go_ret
          exact ⟨ret_bool HF.out.symm, rfl⟩
      · have hkl' : ¬ (k : Int) < (ck.length : Int) := by omega
        have HK3 : Hid (∀ j c, j < i + 1 → l[j]? = some c → ck.getD (b + c) (-1) = -1) := HK2.out (Pk.getD_out _ _ _ (by omega))
        clear HK HK2
        go_wp2_with fail
        go_round
        case rel => exact ⟨i + 1, by omega, by go_num, HK3⟩
        case measure => simp [intOf]; omega
    · have hge : ¬ (i : Int) < (l.length : Int) := by omega
      have HF : Hid (Pk.fr ck b l = true) := by
        show _ = _
        rw [Pk.fr_iff]
        intro c hc
        obtain ⟨j, hj, hjc⟩ := List.getElem_of_mem hc
        exact HK.out j c (by omega) (by rw [List.getElem?_eq_getElem hj, hjc])
      clear HK
      go_wp2_with fail
      go_ret
      exact ⟨ret_bool HF.out.symm, rfl⟩
end Go.Proofs.Ytoaaklhpmhjhkaa
