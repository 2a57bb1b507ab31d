import Derived.Test.YtoaaklhpmhjhkabC33
set_option maxRecDepth 100000
set_option maxHeartbeats 4000000
set_option linter.all false
namespace Go.Proofs.Ytoaaklhpmhjhkab
open Go.RowKit
open Bm
def vM (M:Mc) (i:Nat):Int:=if i=0 then -1 else M.lb (i-1)
def dM (M:Mc) (n i c:Nat):Nat:=if i=0 then 0 else (M.nx ((i-1)*n+c)+1).toNat
def tV (v:Nat->Int) (i j:Nat):Bool:=v i != v j
def rV (v:Nat->Int) (i k a b:Nat):Bool:=if a=i then decide (b<k)&&tV v i b else tV v a b
def LX (M:Mc) (n:Nat) (w:World) (e:Ending) (w':World):Prop:=
 ∃rk t,e=.returned (.slice (some ⟨w.heap.size+1,0,none⟩) (M.nlb+1) (M.nlb+1))/\Uo (w.heap.size+1) (w.heap.size+1) M.nlb rk t (M.nlb+1) w'/\Below w.heap.size w w'/\(∀i j,i<=M.nlb->j<=M.nlb->t i j=false->vM M i=vM M j) /\
  ∀i j c,i<=M.nlb->j<=M.nlb->c<n->t i j=false->t (dM M n i c) (dM M n j c)=false
def QP (M:Mc) (n N:Nat) (t:Nat->Nat->Bool) (a b:Nat):Prop:=∀i j,i<=N->j<=N->(i<a\/(i=a/\j<b))->t i j=false->∀c,c<n->t (dM M n i c) (dM M n j c)=false
theorem Hi {N : Nat} {t : Nat -> Nat -> Bool} {i j : Nat} (hi : i <= N) (hj : j <= N) (h : t i j = false) : JZ N (Va t i j true) < JZ N t := by
 refine Lj (q := (i, j)) (fun p hp hf => ?_) (Mu.2 ⟨hi, hj⟩) (by simp [h]) (by simp [Va])
 revert hf
 unfold Va;split
 ·simp
 ·exact id
theorem LU {t : Nat -> Nat -> Bool} {i j a b : Nat} (h : Va t i j true a b = false) : t a b = false := by
 unfold Va at h;split at h
 ·cases h
 ·exact h
theorem Me {M : Mc} {n N p : Nat} (he : p = N * n) (hx : ∀i, i < p -> -1 <= M.nx i /\ M.nx i < N) {i c : Nat} (hi : 0 < i) (hiN : i <= N) (hc : c < n) : (i-1) * n + c < p /\ (M.nx ((i-1) * n + c) + 1 = (dM M n i c : Int)) /\ dM M n i c <= N := by
 have h1 : (i-1) * n + c < p := by
  have : (i-1 + 1) * n <= N * n := Nat.mul_le_mul_right _ (by omega);rw [Nat.add_mul] at this;omega
 have h2 := hx _ h1;unfold dM;rw [if_neg (by omega)];exact ⟨h1, by omega, by omega⟩
theorem Ie (M : Mc) (A : Vj) (n : Nat) (w : World) (hs : NC M) (hI : SM M A w) (hn1 : 1 ≤ n) (hn2 : n ≤ 256) (hl : M.nlb ≤ 96) (he : M.nnx = M.nlb * n) (hnx : ∀i, i < M.nnx → -1 ≤ M.nx i ∧ M.nx i < M.nlb) :
    Calls Try.prog 27 #[.agg (A.cells M), .int .i64 n] w (LX M n w) := by
  obtain ⟨a1, q1, a2, q2, a3, q3⟩ := A
  obtain ⟨N, hN⟩ : ∃N : Nat, N = M.nlb := ⟨_, rfl⟩
  obtain ⟨p, hp⟩ : ∃p : Nat, p = M.nnx := ⟨_, rfl⟩
  have hpb : p ≤ 24576 := by rw [hp, he]; exact Nat.mul_le_mul hl hn2
  have eC : Vj.cells ⟨a1, q1, a2, q2, a3, q3⟩ M = #[.int .i64 M.rules, .slice a1 M.ncl q1, .slice a2 N q2, .slice a3 p q3] := by unfold Vj.cells; rw [← hp, ← hN]
  obtain ⟨W, hW⟩ : ∃W, W = w.alloc (.cells #[.int .i64 M.rules, .slice a1 M.ncl q1, .slice a2 N q2, .slice a3 p q3] 24) := ⟨_, rfl⟩
  have x0 : Below w.heap.size w W := by rw [hW]; exact Xu _ _
  have z0 : W.heap.size = w.heap.size + 1 := by rw [hW]; simp
  have hA : WT w.heap.size M ⟨a1, q1, a2, q2, a3, q3⟩ W := by rw [hW, ← eC]; exact WT.boxed M _ w _
  have HX : Hid (Below w.heap.size w W) := x0
  have Hz0 : Hid (W.heap.size = w.heap.size + 1) := z0
  have HM : Hid (∀w', Below W.heap.size W w' → w'.cell? ⟨w.heap.size, 0, none⟩ = some (.int .i64 M.rules) ∧ w'.cell? ⟨w.heap.size, 1, none⟩ = some (.slice a1 M.ncl q1) ∧ w'.cell? ⟨w.heap.size, 2, none⟩ = some (.slice a2 N q2) ∧ w'.cell? ⟨w.heap.size, 3, none⟩ = some (.slice a3 p q3) ∧ IL a3 M.nx M.nnx w') := fun w' hw =>
    ⟨(hA.below hw).c0, (hA.below hw).c1, by rw [hN]; exact (hA.below hw).c2, by rw [hp]; exact (hA.below hw).c3, ((hI.below x0).below hw).l3⟩
  have HLab : Hid (∀(w' : World) (x : Nat), Below W.heap.size W w' → x ≤ N → Calls Try.prog 39 #[.agg #[.int .i64 M.rules, .slice a1 M.ncl q1, .slice a2 N q2, .slice a3 p q3], .int .i64 ((x : Int)-1)] w' fun e w'' => e = .returned (.int .i64 (vM M x)) ∧ Below w'.heap.size w' w'') := fun w' x hw hx => by
    have h1 := MX M ⟨a1, q1, a2, q2, a3, q3⟩ ((x : Int)-1) w' hs ((hI.below x0).below hw) (by omega) (by omega)
    rw [eC] at h1
    refine h1.mono ?_
    rintro e w'' ⟨rfl, hB⟩
    refine ⟨?_, hB⟩
    unfold vM
    by_cases h0 : x = 0
    · rw [if_pos h0, if_pos (by omega)]
    · rw [if_neg h0, if_neg (by omega), show ((x : Int)-1).toNat = x-1 by omega]
  have He : Hid (p = N * n) := by show _ = _; rw [hp, hN, he]
  have HNx : Hid (∀i, i < p → -1 ≤ M.nx i ∧ M.nx i < N) := by show ∀i, _ → _; rw [hp, hN]; exact hnx
  have Hp : Hid (p = M.nnx) := hp
  have hmk : (Instr.makeSlice 64 (.int .i64 ((N : Int) + 1)) (.int .i64 ((N : Int) + 1))).run Try.prog W = .ok (.slice (some ⟨W.heap.size, 0, none⟩) (N + 1) (N + 1)) (W.alloc (.cells (M8 (N + 1)).toArray 66)) := Ns W (N + 1) (by omega)
  obtain ⟨W1, hW1⟩ : ∃W', W' = W.alloc (.cells (M8 (N + 1)).toArray 66) := ⟨_, rfl⟩
  rw [← hW1] at hmk
  have B1 : Below W.heap.size W W1 := by rw [hW1]; exact box_bel _ _
  have O1 : Uo (w.heap.size + 1) (w.heap.size + 1) N (fun _ => 0) (tV (vM M)) 0 W1 := by rw [hW1, ← z0]; exact Uo.first W N _ _
  have s1 : w.heap.size + 2 ≤ W1.heap.size := by rw [hW1]; simp [z0]
  have d2 : W.cell? ⟨w.heap.size, 2, none⟩ = some (.slice a2 N q2) := (HM.out W (Below.refl _ _)).2.2.1
  have HW : Hid (W = w.alloc (.cells #[.int .i64 M.rules, .slice a1 M.ncl q1, .slice a2 N q2, .slice a3 p q3] 24)) := hW
  have hN96 : N ≤ 96 := by omega
  rw [z0] at hmk
  rw [hW] at hmk d2
  rw [eC]
  unfold LX
  rw [← hN]
  clear hW1 hW x0 hA hI he hp eC hs hnx hN z0 hl
  go_enter Try.func27, Try.ntmps27
  go_wp2_with fail
  clear d2 hmk HW
  go_loopw [7] (fun x w' => ∃(i : Nat) (rk : Nat → Nat), i ≤ N + 1 ∧ x = .int .i64 i ∧ Uo (w.heap.size + 1) (w.heap.size + 1) N rk (tV (vM M)) i w' ∧ Below W.heap.size W w' ∧ w.heap.size + 2 ≤ w'.heap.size) (fun x _ => N + 1-(intOf x).toNat)
  case atStart => exact ⟨0, _, by omega, rfl, O1, B1, s1⟩
  case round =>
    clear O1 B1 s1
    obtain ⟨i, rk, hi, rfl, O, B, sz⟩ := hrel
    by_cases hlt : i < N + 1
    · have hlt' : (i : Int) < (N : Int) + 1 := by omega
      have hmk : (Instr.makeSlice 66 (.int .i64 ((N : Int) + 1)) (.int .i64 ((N : Int) + 1))).run Try.prog wr = .ok (.slice (some ⟨wr.heap.size, 0, none⟩) (N + 1) (N + 1)) (wr.alloc (.cells (bl (fun _ => false) (N + 1)).toArray 4)) := Nq wr (N + 1) (by omega)
      have O2 := O.row (by omega) (by omega) (by omega) 4
      obtain ⟨W2, hW2⟩ : ∃W, W = wr.alloc (.cells (bl (fun _ => false) (N + 1)).toArray 4) := ⟨_, rfl⟩
      rw [← hW2] at hmk O2
      have x2 : Below wr.heap.size wr W2 := by rw [hW2]; exact box_bel _ _
      have cz : W2.cell? ⟨w.heap.size + 1, i, none⟩ = some (.slice none 0 0) := by rw [x2.cell (p := ⟨w.heap.size + 1, i, none⟩) (by show w.heap.size + 1 < wr.heap.size; omega)]; exact O.z i (Nat.le_refl _) (by omega)
      have fz : W2.frozen? ⟨w.heap.size + 1, i, none⟩ = false := by rw [World.frozen?_of_block (w := wr) (a := ⟨w.heap.size + 1, i, none⟩) (x2.block _ (by show w.heap.size + 1 < wr.heap.size; omega))]; exact O.f i (by omega)
      obtain ⟨W3, hW3⟩ : ∃W, W = W2.setCell ⟨w.heap.size + 1, i, none⟩ (.slice (some ⟨wr.heap.size, 0, none⟩) (N + 1) (N + 1)) := ⟨_, rfl⟩
      rw [← hW3] at O2
      have B3 : Below W.heap.size W W3 := by rw [hW3]; exact (B.trans (x2.mono B.size)).setCell (p := ⟨w.heap.size + 1, i, none⟩) (by show W.heap.size ≤ w.heap.size + 1; rw [Hz0.out]; exact Nat.le_refl _) _
      have s3 : w.heap.size + 2 ≤ W3.heap.size := by rw [hW3]; have := x2.size; simp; omega
      have O3 := O2.congr (t' := rV (vM M) i 0) (fun a b _ _ => by simp [rV])
      obtain ⟨rk2, hrk2⟩ : ∃rk2 : Nat → Nat, rk2 = fun a => if a = i then wr.heap.size else rk a := ⟨_, rfl⟩
      rw [← hrk2] at O3
      have HW3 : Hid (W3 = W2.setCell ⟨w.heap.size + 1, i, none⟩ (.slice (some ⟨wr.heap.size, 0, none⟩) (N + 1) (N + 1))) := hW3
      clear O O2 hW2 hW3 hrk2 x2 B sz
      go_wp2_with fail
      rw [← HW3.out]
      clear HW3 cz fz hmk
      go_loopw [8] (fun x w' => ∃k : Nat, k ≤ N + 1 ∧ x = .int .i64 k ∧ Uo (w.heap.size + 1) (w.heap.size + 1) N rk2 (rV (vM M) i k) (i + 1) w' ∧ Below W.heap.size W w' ∧ w.heap.size + 2 ≤ w'.heap.size) (fun x _ => N + 1-(intOf x).toNat)
      case atStart => exact ⟨0, by omega, rfl, O3, B3, s3⟩
      case round =>
        clear O3 B3 s3
        obtain ⟨k, hk, rfl, O, BW, sz⟩ := hrel
        by_cases hkl : k < N + 1
        · have hkl' : (k : Int) < (N : Int) + 1 := by omega
          have ct := O.c i (by omega)
          obtain ⟨cr, fr⟩ := O.r i (by omega) k _ (YN _ (by omega))
          obtain ⟨R, hR⟩ : ∃R, R = rk2 i := ⟨_, rfl⟩
          rw [← hR] at ct cr fr
          have hRb : w.heap.size + 1 ≤ R ∧ R ≠ w.heap.size + 1 := by rw [hR]; have := O.ne i (by omega); exact ⟨this.2, this.1⟩
          have hRs : R < wr.heap.size := by rw [hR]; exact O.blk i (by omega)
          have BWs : W.heap.size ≤ wr.heap.size := BW.size
          obtain ⟨m0, m1, m2, m3, _⟩ := HM.out wr BW
          have hS0 : wr.drew.cell? ⟨w.heap.size + 1, i, none⟩ = some (.slice (some ⟨R, 0, none⟩) (N + 1) (N + 1)) ∧ wr.drew.cell? ⟨w.heap.size, 0, none⟩ = some (.int .i64 M.rules) ∧ wr.drew.cell? ⟨w.heap.size, 1, none⟩ = some (.slice a1 M.ncl q1) ∧ wr.drew.cell? ⟨w.heap.size, 2, none⟩ = some (.slice a2 N q2) ∧ wr.drew.cell? ⟨w.heap.size, 3, none⟩ = some (.slice a3 p q3) := ⟨ct, m0, m1, m2, m3⟩
          have HSk : Hid (∀w', Below wr.heap.size wr.drew w' → w'.cell? ⟨w.heap.size + 1, i, none⟩ = some (.slice (some ⟨R, 0, none⟩) (N + 1) (N + 1)) ∧ w'.cell? ⟨w.heap.size, 0, none⟩ = some (.int .i64 M.rules) ∧ w'.cell? ⟨w.heap.size, 1, none⟩ = some (.slice a1 M.ncl q1) ∧ w'.cell? ⟨w.heap.size, 2, none⟩ = some (.slice a2 N q2) ∧ w'.cell? ⟨w.heap.size, 3, none⟩ = some (.slice a3 p q3)) := fun w' h => by
            have hc : ∀b o, b < wr.heap.size → w'.cell? ⟨b, o, none⟩ = wr.drew.cell? ⟨b, o, none⟩ := fun b o hb => h.cell (p := ⟨b, o, none⟩) hb
            rw [hc _ _ (by omega), hc _ _ (by omega), hc _ _ (by omega), hc _ _ (by omega), hc _ _ (by omega)]
            exact hS0
          have HEnd : Hid (∀w', Below wr.heap.size wr.drew w' → w'.cell? ⟨R, k, none⟩ = some (.bool (rV (vM M) i k i k)) ∧ w'.frozen? ⟨R, k, none⟩ = false ∧ ((w'.setCell ⟨R, k, none⟩ (.bool (vM M i != vM M k))).cell? ⟨w.heap.size + 1, i, none⟩ = some (.slice (some ⟨R, 0, none⟩) (N + 1) (N + 1)) ∧ (w'.setCell ⟨R, k, none⟩ (.bool (vM M i != vM M k))).cell? ⟨w.heap.size, 0, none⟩ = some (.int .i64 M.rules) ∧ (w'.setCell ⟨R, k, none⟩ (.bool (vM M i != vM M k))).cell? ⟨w.heap.size, 1, none⟩ = some (.slice a1 M.ncl q1) ∧ (w'.setCell ⟨R, k, none⟩ (.bool (vM M i != vM M k))).cell? ⟨w.heap.size, 2, none⟩ = some (.slice a2 N q2) ∧ (w'.setCell ⟨R, k, none⟩ (.bool (vM M i != vM M k))).cell? ⟨w.heap.size, 3, none⟩ = some (.slice a3 p q3)) ∧
              Uo (w.heap.size + 1) (w.heap.size + 1) N rk2 (rV (vM M) i (k + 1)) (i + 1) (w'.setCell ⟨R, k, none⟩ (.bool (vM M i != vM M k))) ∧ Below W.heap.size W (w'.setCell ⟨R, k, none⟩ (.bool (vM M i != vM M k))) ∧ w.heap.size + 2 ≤ (w'.setCell ⟨R, k, none⟩ (.bool (vM M i != vM M k))).heap.size) := fun w' h => by
            have Ok := O.keep (w' := w') (h.block _ (by show w.heap.size + 1 < wr.heap.size; omega)) (fun a ha => h.block _ (O.blk a ha))
            have O2 := Ok.set (i := i) (j := k) (by omega) (by omega) (vM M i != vM M k)
            have O3 := O2.congr (t' := rV (vM M) i (k + 1)) (fun a b _ _ => by
              simp only [Va, rV]
              by_cases e1 : a = i
              · by_cases e2 : b = k
                · simp [e1, e2, tV]
                · have : decide (b < k + 1) = decide (b < k) := by simp; omega
                  simp [e1, e2, this]
              · simp [e1])
            rw [← hR] at O3
            obtain ⟨y1, y2⟩ := Ok.r i (by omega) k _ (YN _ (by omega))
            rw [← hR] at y1 y2
            have hs' := h.size
            have far : ∀b o, b ≠ R → (w'.setCell ⟨R, k, none⟩ (.bool (vM M i != vM M k))).cell? ⟨b, o, none⟩ = w'.cell? ⟨b, o, none⟩ := fun b o hb => World.cell?_setCell_far _ _ _ _ (by show R ≠ b; exact fun e => hb e.symm)
            have z0 := Hz0.out
            have hz' : wr.drew.heap.size = wr.heap.size := rfl
            refine ⟨y1, y2, ?_, O3, ((BW.drew).trans (h.mono BWs)).setCell (p := ⟨R, k, none⟩) (by show W.heap.size ≤ R; omega) _, by simp; omega⟩
            rw [far _ _ (by omega), far _ _ (by omega), far _ _ (by omega), far _ _ (by omega), far _ _ (by omega)]
            exact HSk.out w' h
          have hwi : IntKind.i64.wrap ((i : Int)-1) = (i : Int)-1 := by simp [IntKind.wrap, IntKind.bits, IntKind.signed]; omega
          have hwk : IntKind.i64.wrap ((k : Int)-1) = (k : Int)-1 := by simp [IntKind.wrap, IntKind.bits, IntKind.signed]; omega
          clear O hR m0 m1 m2 m3
          go_wp2_with fail
          refine wp_region_held_drew (S := fun w' => w'.cell? ⟨w.heap.size + 1, i, none⟩ = some (.slice (some ⟨R, 0, none⟩) (N + 1) (N + 1)) ∧ w'.cell? ⟨w.heap.size, 0, none⟩ = some (.int .i64 M.rules) ∧ w'.cell? ⟨w.heap.size, 1, none⟩ = some (.slice a1 M.ncl q1) ∧ w'.cell? ⟨w.heap.size, 2, none⟩ = some (.slice a2 N q2) ∧ w'.cell? ⟨w.heap.size, 3, none⟩ = some (.slice a3 p q3)) (by kernel_rfl) hS0 (fun hHeld => ?_)
          refine wpAnyH_take (i := 0) (by simp only [List.getElem?_toArray, List.getElem?_cons_zero]; rfl) (by kernel_rfl) (by kernel_rfl) (by kernel_rfl) (by exact fun _ _ _ h => h) (Or.inl ⟨by rfl, by intro w' hSw; obtain ⟨s1, s2, s3, s4, s5⟩ := hSw; go_simp; first|done|with_reducible rfl⟩) (by assumption) ?_
          (try simp only [Act.put, List.setIfInBounds_toArray, List.set_cons_zero, List.set_cons_succ])
          refine wpAnyH_take (i := 1) (by simp only [List.getElem?_toArray, List.getElem?_cons_succ, List.getElem?_cons_zero]; rfl) (by kernel_rfl) (by kernel_rfl) (by kernel_rfl) (by exact fun _ _ _ h => h) (Or.inl ⟨by rfl, by intro w' hSw; obtain ⟨s1, s2, s3, s4, s5⟩ := hSw; go_simp; first|done|with_reducible rfl⟩) (by assumption) ?_
          (try simp only [Act.put, List.setIfInBounds_toArray, List.set_cons_zero, List.set_cons_succ])
          refine wpAnyH_take (i := 2) (by simp only [List.getElem?_toArray, List.getElem?_cons_succ, List.getElem?_cons_zero]; rfl) (by kernel_rfl) (by kernel_rfl) (by kernel_rfl) (by exact fun _ _ _ h => h) (Or.inl ⟨by rfl, by intro w' hSw; obtain ⟨s1, s2, s3, s4, s5⟩ := hSw; go_simp; first|done|with_reducible rfl⟩) (by assumption) ?_
          (try simp only [Act.put, List.setIfInBounds_toArray, List.set_cons_zero, List.set_cons_succ])
          refine wpAnyH_take (i := 3) (by simp only [List.getElem?_toArray, List.getElem?_cons_succ, List.getElem?_cons_zero]; rfl) (by kernel_rfl) (by kernel_rfl) (by kernel_rfl) (by exact fun _ _ _ h => h) (Or.inl ⟨by rfl, by intro w' hSw; obtain ⟨s1, s2, s3, s4, s5⟩ := hSw; go_simp; first|done|with_reducible rfl⟩) (by assumption) ?_
          (try simp only [Act.put, List.setIfInBounds_toArray, List.set_cons_zero, List.set_cons_succ])
          refine wpAnyH_take (i := 4) (by simp only [List.getElem?_toArray, List.getElem?_cons_succ, List.getElem?_cons_zero]; rfl) (by kernel_rfl) (by kernel_rfl) (by kernel_rfl) (by exact fun _ _ _ h => h) (Or.inl ⟨by rfl, by intro w' hSw; obtain ⟨s1, s2, s3, s4, s5⟩ := hSw; go_simp; first|done|with_reducible rfl⟩) (by assumption) ?_
          (try simp only [Act.put, List.setIfInBounds_toArray, List.set_cons_zero, List.set_cons_succ])
          refine wpAnyH_take (i := 5) (by simp only [List.getElem?_toArray, List.getElem?_cons_succ, List.getElem?_cons_zero]; rfl) (by kernel_rfl) (by kernel_rfl) (by kernel_rfl) (by exact fun _ _ _ h => h) (Or.inl ⟨by rfl, by intro w' hSw; obtain ⟨s1, s2, s3, s4, s5⟩ := hSw; go_simp; first|done|with_reducible rfl⟩) (by assumption) ?_
          (try simp only [Act.put, List.setIfInBounds_toArray, List.set_cons_zero, List.set_cons_succ])
          refine wpAnyH_take (i := 6) (by simp only [List.getElem?_toArray, List.getElem?_cons_succ, List.getElem?_cons_zero]; rfl) (by kernel_rfl) (by kernel_rfl) (by kernel_rfl) (by exact fun _ _ _ h => h) (Or.inl ⟨by rfl, by intro w' hSw; obtain ⟨s1, s2, s3, s4, s5⟩ := hSw; go_simp; first|done|with_reducible rfl⟩) (by assumption) ?_
          (try simp only [Act.put, List.setIfInBounds_toArray, List.set_cons_zero, List.set_cons_succ])
          refine wpAnyH_take (i := 7) (by simp only [List.getElem?_toArray, List.getElem?_cons_succ, List.getElem?_cons_zero]; rfl) (by kernel_rfl) (by kernel_rfl) (by kernel_rfl) (by exact fun _ _ _ h => h) (Or.inl ⟨by rfl, by intro w' hSw; obtain ⟨s1, s2, s3, s4, s5⟩ := hSw; go_simp; first|done|with_reducible rfl⟩) (by assumption) ?_
          (try simp only [Act.put, List.setIfInBounds_toArray, List.set_cons_zero, List.set_cons_succ])
          refine wpAnyH_take (i := 9) (by simp only [List.getElem?_toArray, List.getElem?_cons_succ, List.getElem?_cons_zero]; rfl) (by kernel_rfl) (by kernel_rfl) (by kernel_rfl) (by exact fun _ _ _ h => h) (Or.inl ⟨by rfl, by intro w' hSw; obtain ⟨s1, s2, s3, s4, s5⟩ := hSw; go_simp; first|done|with_reducible rfl⟩) (by assumption) ?_
          (try simp only [Act.put, List.setIfInBounds_toArray, List.set_cons_zero, List.set_cons_succ])
          refine wpAnyH_take (i := 10) (by simp only [List.getElem?_toArray, List.getElem?_cons_succ, List.getElem?_cons_zero]; rfl) (by kernel_rfl) (by kernel_rfl) (by kernel_rfl) (by exact fun _ _ _ h => h) (Or.inl ⟨by rfl, by intro w' hSw; obtain ⟨s1, s2, s3, s4, s5⟩ := hSw; go_simp; first|done|with_reducible rfl⟩) (by assumption) ?_
          (try simp only [Act.put, List.setIfInBounds_toArray, List.set_cons_zero, List.set_cons_succ])
          refine wpAnyH_take (i := 11) (by simp only [List.getElem?_toArray, List.getElem?_cons_succ, List.getElem?_cons_zero]; rfl) (by kernel_rfl) (by kernel_rfl) (by kernel_rfl) (by exact fun _ _ _ h => h) (Or.inl ⟨by rfl, by intro w' hSw; obtain ⟨s1, s2, s3, s4, s5⟩ := hSw; go_simp; first|done|with_reducible rfl⟩) (by assumption) ?_
          (try simp only [Act.put, List.setIfInBounds_toArray, List.set_cons_zero, List.set_cons_succ])
          refine wpAnyH_ready (rs := [8]) (by kernel_rfl) (by simp) ?_
          refine AllReadyH.cons (o := ?oZ8) ?hiZ8 (fun K hK => ?_) AllReadyH.nil
          case hiZ8 => simp only [List.getElem?_toArray, List.getElem?_cons_succ, List.getElem?_cons_zero]; rfl
          go_simp
          refine (HLab.out wr.drew i BW.drew (by omega)).mono ?_
          rintro e w1 ⟨rfl, L1⟩
          go_wp2_with fail
          have S1 := HSk.out w1 L1
          refine hK.out _ _ S1 (fun hHeld => ?_)
          clear hK K
          (try simp only [Act.put, List.setIfInBounds_toArray, List.set_cons_zero, List.set_cons_succ])
          refine wpAnyH_ready (rs := [12]) (by kernel_rfl) (by simp) ?_
          refine AllReadyH.cons (o := ?oZ12) ?hiZ12 (fun K hK => ?_) AllReadyH.nil
          case hiZ12 => simp only [List.getElem?_toArray, List.getElem?_cons_succ, List.getElem?_cons_zero]; rfl
          go_simp
          refine (HLab.out w1 k (BW.drew.trans (L1.mono BWs)) (by omega)).mono ?_
          rintro e w2 ⟨rfl, L2⟩
          go_wp2_with fail
          have L12 : Below wr.heap.size wr.drew w2 := L1.trans (L2.mono L1.size)
          have S2 := HSk.out w2 L12
          refine hK.out _ _ S2 (fun hHeld => ?_)
          clear hK K
          (try simp only [Act.put, List.setIfInBounds_toArray, List.set_cons_zero, List.set_cons_succ])
          refine wpAnyH_take (i := 13) (by simp only [List.getElem?_toArray, List.getElem?_cons_succ, List.getElem?_cons_zero]; rfl) (by kernel_rfl) (by kernel_rfl) (by kernel_rfl) (by exact fun _ _ _ h => h) (Or.inl ⟨by rfl, by intro w' hSw; obtain ⟨s1, s2, s3, s4, s5⟩ := hSw; go_simp; first|done|with_reducible rfl⟩) (by assumption) ?_
          (try simp only [Act.put, List.setIfInBounds_toArray, List.set_cons_zero, List.set_cons_succ])
          refine wpAnyH_take (i := 14) (by simp only [List.getElem?_toArray, List.getElem?_cons_succ, List.getElem?_cons_zero]; rfl) (by kernel_rfl) (by kernel_rfl) (by kernel_rfl) (by exact fun _ _ _ h => h) (Or.inl ⟨by rfl, by intro w' hSw; obtain ⟨s1, s2, s3, s4, s5⟩ := hSw; go_simp; first|done|with_reducible rfl⟩) (by assumption) ?_
          (try simp only [Act.put, List.setIfInBounds_toArray, List.set_cons_zero, List.set_cons_succ])
          refine wpAnyH_ready (rs := [15]) (by kernel_rfl) (by simp) ?_
          refine AllReadyH.cons (o := ?oZ15) ?hiZ15 (fun K hK => ?_) AllReadyH.nil
          case hiZ15 => simp only [List.getElem?_toArray, List.getElem?_cons_succ, List.getElem?_cons_zero]; rfl
          obtain ⟨cr2, fr2, ct2, O4, B4, s4⟩ := HEnd.out w2 L12
          go_simp
          refine hK.out _ _ ct2 (fun hHeld => ?_)
          clear hK K
          (try simp only [Act.put, List.setIfInBounds_toArray, List.set_cons_zero, List.set_cons_succ])
          refine wpAnyH_done (by kernel_rfl) ?_ _
          go_wp2_with fail
          (try simp only [Act.put])
          go_roundw
          case rel => exact ⟨k + 1, by omega, by go_num, O4, B4, s4⟩
          case measure => simp [intOf]; omega
        · have hge : ¬(k : Int) < (N : Int) + 1 := by omega
          have hkN : k = N + 1 := by omega
          subst hkN
          have O4 := O.congr (t' := tV (vM M)) (fun a b _ hb => by
            simp only [rV, hb, decide_true, Bool.true_and]
            by_cases e : a = i
            · simp [e]
            · simp [e])
          clear O
          go_wp2_with fail
          go_roundw
          case rel => exact ⟨i + 1, rk2, by omega, by go_num, O4, BW, sz⟩
          case measure => simp [intOf]; omega
    · have hge : ¬(i : Int) < (N : Int) + 1 := by omega
      have hiN : i = N + 1 := by omega
      subst hiN
      clear HLab
      go_wp2_with fail
      go_loopw [9] (fun x w' => ∃(t : Nat → Nat → Bool) (m : Bool), x = .bool m ∧ Uo (w.heap.size + 1) (w.heap.size + 1) N rk t (N + 1) w' ∧ Hid (∀a b, t a b = false → vM M a = vM M b) ∧ (m = false → QP M n N t (N + 1) 0) ∧ Below W.heap.size W w') (fun x w' => 2 * opn N rk w' + Ju x)
      case atStart => exact ⟨_, true, rfl, O, fun a b h => by simpa [tV] using h, (fun h => by cases h), B⟩
      case round =>
        clear O B sz
        obtain ⟨t, m, rfl, O, HV, hC, B⟩ := hrel
        cases m
        · have HC : Hid (QP M n N t (N + 1) 0) := hC rfl
          clear hC
          go_wp2_with fail
          go_ret
          exact ⟨rk, t, rfl, O, HX.out.trans (B.mono HX.out.size), fun a b _ _ h => HV.out a b h, fun a b c ha hb hc h => HC.out a b ha hb (by omega) h c hc⟩
        · clear hC
          obtain ⟨OP, hOP⟩ : ∃OP, OP = opn N rk wr := ⟨_, rfl⟩
          have HOP : Hid (OP = opn N rk wr) := hOP
          clear hOP
          go_wp2_with fail
          go_loopw [9, 10] (fun x y w' => ∃(t : Nat → Nat → Bool) (m : Bool) (i : Nat), x = .bool m ∧ y = .int .i64 i ∧ i ≤ N + 1 ∧ Uo (w.heap.size + 1) (w.heap.size + 1) N rk t (N + 1) w' ∧ Hid (∀a b, t a b = false → vM M a = vM M b) ∧ (m = false → QP M n N t i 0) ∧ (opn N rk w' + (if m then 1 else 0) ≤ OP) ∧ Below W.heap.size W w') (fun _ y _ => N + 1-(intOf y).toNat)
          case atStart => exact ⟨t, false, 0, rfl, rfl, by omega, O, HV, (fun _ a b _ _ h => by omega), by rw [HOP.out]; simp, B⟩
          case round =>
            clear O HV B
            obtain ⟨t, m, i, rfl, rfl, hi, O, HV, hC, hop, B⟩ := hrel
            have HC : Hid (m = false → QP M n N t i 0) := hC
            have Hop : Hid (opn N rk wr + (if m then 1 else 0) ≤ OP) := hop
            clear hC hop
            by_cases hil' : i < N + 1
            · have hil2 : (i : Int) < (N : Int) + 1 := by omega
              go_wp2_with fail
              go_loopw [9, 11] (fun x y w' => ∃(t : Nat → Nat → Bool) (m : Bool) (j : Nat), x = .bool m ∧ y = .int .i64 j ∧ j ≤ N + 1 ∧ Uo (w.heap.size + 1) (w.heap.size + 1) N rk t (N + 1) w' ∧ Hid (∀a b, t a b = false → vM M a = vM M b) ∧ Hid (m = false → QP M n N t i j) ∧ Hid (opn N rk w' + (if m then 1 else 0) ≤ OP) ∧ Below W.heap.size W w') (fun _ y _ => N + 1-(intOf y).toNat)
              case atStart => exact ⟨t, m, 0, rfl, rfl, by omega, O, HV, HC, Hop, B⟩
              case round =>
                clear O HV B HC Hop
                obtain ⟨t2, m, j, rfl, rfl, hj, O, HV, HC, Hop, B⟩ := hrel
                by_cases hjl : j < N + 1
                · have hjl2 : (j : Int) < (N : Int) + 1 := by omega
                  have ci := O.c i (by omega)
                  obtain ⟨cr, _⟩ := O.r i (by omega) j _ (YN _ hjl)
                  obtain ⟨R, hR⟩ : ∃R, R = rk i := ⟨_, rfl⟩
                  rw [← hR] at ci cr
                  clear hR
                  cases hX2 : t2 i j
                  · rw [hX2] at cr
                    have HX2 : Hid (t2 i j = false) := hX2
                    have HO : Hid (opn N rk wr = JZ N t2) := O.opn
                    clear hX2
                    go_wp2_with fail
                    clear ci cr
                    go_loopw [9, 12] (fun x y w' => ∃(c : Nat) (u : Bool) (tt : Nat → Nat → Bool), c ≤ n ∧ x = .bool (m || u) ∧ y = .int .i64 c ∧ Uo (w.heap.size + 1) (w.heap.size + 1) N rk tt (N + 1) w' ∧ Hid ((u = false → (∀a b, tt a b = t2 a b) ∧ ∀c', c' < c → t2 (dM M n i c') (dM M n j c') = false) ∧ (u = true → ∀a b, tt a b = Va t2 i j true a b)) ∧ Below W.heap.size W w') (fun _ y _ => n-(intOf y).toNat)
                    case atStart => exact ⟨0, false, t2, by omega, by simp, rfl, O, ⟨fun _ => ⟨fun _ _ => rfl, fun c' h => by omega⟩, fun h => by cases h⟩, B⟩
                    case round =>
                      clear O B
                      obtain ⟨c, u, tt, hc, rfl, rfl, O, HU, B⟩ := hrel
                      obtain ⟨mu, hmu⟩ : ∃mu, mu = (m || u) := ⟨_, rfl⟩
                      have Hmu : Hid (mu = (m || u)) := hmu
                      rw [← hmu]
                      clear hmu
                      by_cases hcn : c < n
                      · have hcn2 : (c : Int) < (n : Int) := by omega
                        obtain ⟨_, _, _, f3, hil⟩ := HM.out wr B
                        obtain ⟨X, hX⟩ : ∃X, X = dM M n i c := ⟨_, rfl⟩
                        obtain ⟨Y, hY⟩ : ∃Y, Y = dM M n j c := ⟨_, rfl⟩
                        by_cases i0 : i = 0
                        · by_cases j0 : j = 0
                          · have hX0 : X = 0 := by rw [hX]; unfold dM; exact if_pos i0
                            subst i0
                            have hY0 : Y = 0 := by rw [hY]; unfold dM; exact if_pos j0
                            subst j0
                            have lX : (X : Int) < (N : Int) + 1 := by omega
                            have lY : (Y : Int) < (N : Int) + 1 := by omega
                            subst hX0
                            subst hY0
                            have cX := O.c 0 (by omega)
                            obtain ⟨rX, _⟩ := O.r 0 (by omega) 0 _ (YN _ (show 0 < N + 1 by omega))
                            obtain ⟨RX, hRX⟩ : ∃RX, RX = rk 0 := ⟨_, rfl⟩
                            rw [← hRX] at cX rX
                            cases hT : tt 0 0
                            · rw [hT] at rX
                              have HU2 : Hid ((u = false → (∀a b, tt a b = t2 a b) ∧ ∀c', c' < c + 1 → t2 (dM M n 0 c') (dM M n 0 c') = false) ∧ (u = true → ∀a b, tt a b = Va t2 0 0 true a b)) := ⟨fun h => ⟨(HU.out.1 h).1, fun c' hc' => by
                                by_cases e : c' = c
                                · subst e; rw [← hX]; (try rw [← hY]); rw [← (HU.out.1 h).1]; exact hT
                                · exact (HU.out.1 h).2 c' (by omega)⟩, HU.out.2⟩
                              clear HU hX hY hT hil hRX
                              go_wp2_with fail
                              go_roundw
                              case rel => exact ⟨c + 1, u, tt, by omega, by rw [Hmu.out], by go_num, O, HU2, B⟩
                              case measure => simp [intOf]; omega
                            · rw [hT] at rX
                              have HU2 : Hid (∀a b, Va tt 0 0 true a b = Va t2 0 0 true a b) := fun a b => by
                                unfold Va
                                by_cases e : a = 0 ∧ b = 0
                                · rw [if_pos e, if_pos e]
                                · rw [if_neg e, if_neg e]
                                  cases hu : u
                                  · exact (HU.out.1 hu).1 a b
                                  · rw [HU.out.2 hu]; unfold Va; rw [if_neg e]
                              have ci := O.c 0 (by omega)
                              obtain ⟨ri, fi⟩ := O.r 0 (by omega) 0 _ (YN _ (show 0 < N + 1 by omega))
                              have O2 := O.set (i := 0) (j := 0) (by omega) (by omega) true
                              have hRi := (O.ne 0 (by omega)).2
                              rw [← hRX] at ci ri fi O2 hRi
                              have HB2 : Hid (Below W.heap.size W (wr.setCell ⟨RX, 0, none⟩ (.bool true))) := B.setCell (p := ⟨RX, 0, none⟩) (by show W.heap.size ≤ RX; rw [Hz0.out]; exact hRi) _
                              have HO2 : Hid (Uo (w.heap.size + 1) (w.heap.size + 1) N rk (Va tt 0 0 true) (N + 1) (wr.setCell ⟨RX, 0, none⟩ (.bool true))) := O2
                              clear HU hX hY hT hil O O2 hRi B hRX
                              go_wp2_with fail
                              (try simp only [Act.put])
                              go_roundw
                              case rel => exact ⟨c + 1, true, _, by omega, by simp, by go_num, HO2.out, ⟨(fun h => by cases h), fun _ => HU2.out⟩, HB2.out⟩
                              case measure => simp [intOf]; omega
                          · have hX0 : X = 0 := by rw [hX]; unfold dM; exact if_pos i0
                            subst i0
                            obtain ⟨j1, hj1⟩ : ∃j1 : Nat, j1 = j-1 := ⟨_, rfl⟩
                            have ij1 : (j : Int)-1 = (j1 : Int) := by omega
                            have posj : (0 : Int) < (j : Int) := by omega
                            obtain ⟨mj, hmj⟩ : ∃mj : Nat, mj = j1 * n := ⟨_, rfl⟩
                            have imj : (j1 : Int) * (n : Int) = (mj : Int) := by rw [hmj]; simp
                            obtain ⟨fj1, fj2, fj3⟩ := Me (M := M) He.out HNx.out (show 0 < j by omega) (show j ≤ N by omega) hcn
                            rw [← hj1, ← hmj] at fj1 fj2
                            obtain ⟨qj, hqj⟩ : ∃qj : Nat, qj = mj + c := ⟨_, rfl⟩
                            have iqj : (mj : Int) + (c : Int) = (qj : Int) := by omega
                            rw [← hqj] at fj1 fj2
                            have lqj : (qj : Int) < (p : Int) := by omega
                            obtain ⟨gj, oj, hgj, ccj⟩ := hil qj (by rw [← Hp.out]; exact fj1)
                            subst hgj
                            obtain ⟨vj, hvj⟩ : ∃v, v = M.nx qj := ⟨_, rfl⟩
                            rw [← hvj] at fj2 ccj
                            rw [← hY] at fj2 fj3
                            have lX : (X : Int) < (N : Int) + 1 := by omega
                            have lY : (Y : Int) < (N : Int) + 1 := by omega
                            subst hX0
                            have cX := O.c 0 (by omega)
                            obtain ⟨rX, _⟩ := O.r 0 (by omega) Y _ (YN _ (show Y < N + 1 by omega))
                            obtain ⟨RX, hRX⟩ : ∃RX, RX = rk 0 := ⟨_, rfl⟩
                            rw [← hRX] at cX rX
                            cases hT : tt 0 Y
                            · rw [hT] at rX
                              have HU2 : Hid ((u = false → (∀a b, tt a b = t2 a b) ∧ ∀c', c' < c + 1 → t2 (dM M n 0 c') (dM M n j c') = false) ∧ (u = true → ∀a b, tt a b = Va t2 0 j true a b)) := ⟨fun h => ⟨(HU.out.1 h).1, fun c' hc' => by
                                by_cases e : c' = c
                                · subst e; rw [← hX]; (try rw [← hY]); rw [← (HU.out.1 h).1]; exact hT
                                · exact (HU.out.1 h).2 c' (by omega)⟩, HU.out.2⟩
                              clear HU hX hY hT hil hRX hmj hqj hvj hj1
                              go_wp2_with fail
                              go_roundw
                              case rel => exact ⟨c + 1, u, tt, by omega, by rw [Hmu.out], by go_num, O, HU2, B⟩
                              case measure => simp [intOf]; omega
                            · rw [hT] at rX
                              have HU2 : Hid (∀a b, Va tt 0 j true a b = Va t2 0 j true a b) := fun a b => by
                                unfold Va
                                by_cases e : a = 0 ∧ b = j
                                · rw [if_pos e, if_pos e]
                                · rw [if_neg e, if_neg e]
                                  cases hu : u
                                  · exact (HU.out.1 hu).1 a b
                                  · rw [HU.out.2 hu]; unfold Va; rw [if_neg e]
                              have ci := O.c 0 (by omega)
                              obtain ⟨ri, fi⟩ := O.r 0 (by omega) j _ (YN _ (show j < N + 1 by omega))
                              have O2 := O.set (i := 0) (j := j) (by omega) (by omega) true
                              have hRi := (O.ne 0 (by omega)).2
                              rw [← hRX] at ci ri fi O2 hRi
                              have HB2 : Hid (Below W.heap.size W (wr.setCell ⟨RX, j, none⟩ (.bool true))) := B.setCell (p := ⟨RX, j, none⟩) (by show W.heap.size ≤ RX; rw [Hz0.out]; exact hRi) _
                              have HO2 : Hid (Uo (w.heap.size + 1) (w.heap.size + 1) N rk (Va tt 0 j true) (N + 1) (wr.setCell ⟨RX, j, none⟩ (.bool true))) := O2
                              clear HU hX hY hT hil O O2 hRi B hRX hmj hqj hvj hj1
                              go_wp2_with fail
                              (try simp only [Act.put])
                              go_roundw
                              case rel => exact ⟨c + 1, true, _, by omega, by simp, by go_num, HO2.out, ⟨(fun h => by cases h), fun _ => HU2.out⟩, HB2.out⟩
                              case measure => simp [intOf]; omega
                        · by_cases j0 : j = 0
                          · obtain ⟨i1, hi1⟩ : ∃i1 : Nat, i1 = i-1 := ⟨_, rfl⟩
                            have ii1 : (i : Int)-1 = (i1 : Int) := by omega
                            have posi : (0 : Int) < (i : Int) := by omega
                            obtain ⟨mi, hmi⟩ : ∃mi : Nat, mi = i1 * n := ⟨_, rfl⟩
                            have imi : (i1 : Int) * (n : Int) = (mi : Int) := by rw [hmi]; simp
                            obtain ⟨fi1, fi2, fi3⟩ := Me (M := M) He.out HNx.out (show 0 < i by omega) (show i ≤ N by omega) hcn
                            rw [← hi1, ← hmi] at fi1 fi2
                            obtain ⟨qi, hqi⟩ : ∃qi : Nat, qi = mi + c := ⟨_, rfl⟩
                            have iqi : (mi : Int) + (c : Int) = (qi : Int) := by omega
                            rw [← hqi] at fi1 fi2
                            have lqi : (qi : Int) < (p : Int) := by omega
                            obtain ⟨gi, oi, hgi, cci⟩ := hil qi (by rw [← Hp.out]; exact fi1)
                            subst hgi
                            obtain ⟨vi, hvi⟩ : ∃v, v = M.nx qi := ⟨_, rfl⟩
                            rw [← hvi] at fi2 cci
                            rw [← hX] at fi2 fi3
                            have hY0 : Y = 0 := by rw [hY]; unfold dM; exact if_pos j0
                            subst j0
                            have lX : (X : Int) < (N : Int) + 1 := by omega
                            have lY : (Y : Int) < (N : Int) + 1 := by omega
                            subst hY0
                            have cX := O.c X (by omega)
                            obtain ⟨rX, _⟩ := O.r X (by omega) 0 _ (YN _ (show 0 < N + 1 by omega))
                            obtain ⟨RX, hRX⟩ : ∃RX, RX = rk X := ⟨_, rfl⟩
                            rw [← hRX] at cX rX
                            cases hT : tt X 0
                            · rw [hT] at rX
                              have HU2 : Hid ((u = false → (∀a b, tt a b = t2 a b) ∧ ∀c', c' < c + 1 → t2 (dM M n i c') (dM M n 0 c') = false) ∧ (u = true → ∀a b, tt a b = Va t2 i 0 true a b)) := ⟨fun h => ⟨(HU.out.1 h).1, fun c' hc' => by
                                by_cases e : c' = c
                                · subst e; rw [← hX]; (try rw [← hY]); rw [← (HU.out.1 h).1]; exact hT
                                · exact (HU.out.1 h).2 c' (by omega)⟩, HU.out.2⟩
                              clear HU hX hY hT hil hRX hmi hqi hvi hi1
                              go_wp2_with fail
                              go_roundw
                              case rel => exact ⟨c + 1, u, tt, by omega, by rw [Hmu.out], by go_num, O, HU2, B⟩
                              case measure => simp [intOf]; omega
                            · rw [hT] at rX
                              have HU2 : Hid (∀a b, Va tt i 0 true a b = Va t2 i 0 true a b) := fun a b => by
                                unfold Va
                                by_cases e : a = i ∧ b = 0
                                · rw [if_pos e, if_pos e]
                                · rw [if_neg e, if_neg e]
                                  cases hu : u
                                  · exact (HU.out.1 hu).1 a b
                                  · rw [HU.out.2 hu]; unfold Va; rw [if_neg e]
                              have ci := O.c i (by omega)
                              obtain ⟨ri, fi⟩ := O.r i (by omega) 0 _ (YN _ (show 0 < N + 1 by omega))
                              have O2 := O.set (i := i) (j := 0) (by omega) (by omega) true
                              have hRi := (O.ne i (by omega)).2
                              obtain ⟨Ri, hRi2⟩ : ∃Ri, Ri = rk i := ⟨_, rfl⟩
                              rw [← hRi2] at ci ri fi O2 hRi
                              have HB2 : Hid (Below W.heap.size W (wr.setCell ⟨Ri, 0, none⟩ (.bool true))) := B.setCell (p := ⟨Ri, 0, none⟩) (by show W.heap.size ≤ Ri; rw [Hz0.out]; exact hRi) _
                              have HO2 : Hid (Uo (w.heap.size + 1) (w.heap.size + 1) N rk (Va tt i 0 true) (N + 1) (wr.setCell ⟨Ri, 0, none⟩ (.bool true))) := O2
                              clear HU hX hY hT hil O O2 hRi hRi2 B hRX hmi hqi hvi hi1
                              go_wp2_with fail
                              (try simp only [Act.put])
                              go_roundw
                              case rel => exact ⟨c + 1, true, _, by omega, by simp, by go_num, HO2.out, ⟨(fun h => by cases h), fun _ => HU2.out⟩, HB2.out⟩
                              case measure => simp [intOf]; omega
                          · obtain ⟨i1, hi1⟩ : ∃i1 : Nat, i1 = i-1 := ⟨_, rfl⟩
                            have ii1 : (i : Int)-1 = (i1 : Int) := by omega
                            have posi : (0 : Int) < (i : Int) := by omega
                            obtain ⟨mi, hmi⟩ : ∃mi : Nat, mi = i1 * n := ⟨_, rfl⟩
                            have imi : (i1 : Int) * (n : Int) = (mi : Int) := by rw [hmi]; simp
                            obtain ⟨fi1, fi2, fi3⟩ := Me (M := M) He.out HNx.out (show 0 < i by omega) (show i ≤ N by omega) hcn
                            rw [← hi1, ← hmi] at fi1 fi2
                            obtain ⟨qi, hqi⟩ : ∃qi : Nat, qi = mi + c := ⟨_, rfl⟩
                            have iqi : (mi : Int) + (c : Int) = (qi : Int) := by omega
                            rw [← hqi] at fi1 fi2
                            have lqi : (qi : Int) < (p : Int) := by omega
                            obtain ⟨gi, oi, hgi, cci⟩ := hil qi (by rw [← Hp.out]; exact fi1)
                            subst hgi
                            obtain ⟨vi, hvi⟩ : ∃v, v = M.nx qi := ⟨_, rfl⟩
                            rw [← hvi] at fi2 cci
                            rw [← hX] at fi2 fi3
                            obtain ⟨j1, hj1⟩ : ∃j1 : Nat, j1 = j-1 := ⟨_, rfl⟩
                            have ij1 : (j : Int)-1 = (j1 : Int) := by omega
                            have posj : (0 : Int) < (j : Int) := by omega
                            obtain ⟨mj, hmj⟩ : ∃mj : Nat, mj = j1 * n := ⟨_, rfl⟩
                            have imj : (j1 : Int) * (n : Int) = (mj : Int) := by rw [hmj]; simp
                            obtain ⟨fj1, fj2, fj3⟩ := Me (M := M) He.out HNx.out (show 0 < j by omega) (show j ≤ N by omega) hcn
                            rw [← hj1, ← hmj] at fj1 fj2
                            obtain ⟨qj, hqj⟩ : ∃qj : Nat, qj = mj + c := ⟨_, rfl⟩
                            have iqj : (mj : Int) + (c : Int) = (qj : Int) := by omega
                            rw [← hqj] at fj1 fj2
                            have lqj : (qj : Int) < (p : Int) := by omega
                            obtain ⟨gj, oj, hgj, ccj⟩ := hil qj (by rw [← Hp.out]; exact fj1)
                            cases hgj
                            obtain ⟨vj, hvj⟩ : ∃v, v = M.nx qj := ⟨_, rfl⟩
                            rw [← hvj] at fj2 ccj
                            rw [← hY] at fj2 fj3
                            have lX : (X : Int) < (N : Int) + 1 := by omega
                            have lY : (Y : Int) < (N : Int) + 1 := by omega
                            have cX := O.c X (by omega)
                            obtain ⟨rX, _⟩ := O.r X (by omega) Y _ (YN _ (show Y < N + 1 by omega))
                            obtain ⟨RX, hRX⟩ : ∃RX, RX = rk X := ⟨_, rfl⟩
                            rw [← hRX] at cX rX
                            cases hT : tt X Y
                            · rw [hT] at rX
                              have HU2 : Hid ((u = false → (∀a b, tt a b = t2 a b) ∧ ∀c', c' < c + 1 → t2 (dM M n i c') (dM M n j c') = false) ∧ (u = true → ∀a b, tt a b = Va t2 i j true a b)) := ⟨fun h => ⟨(HU.out.1 h).1, fun c' hc' => by
                                by_cases e : c' = c
                                · subst e; rw [← hX]; (try rw [← hY]); rw [← (HU.out.1 h).1]; exact hT
                                · exact (HU.out.1 h).2 c' (by omega)⟩, HU.out.2⟩
                              clear HU hX hY hT hil hRX hmi hqi hvi hi1 hmj hqj hvj hj1
                              go_wp2_with fail
                              go_roundw
                              case rel => exact ⟨c + 1, u, tt, by omega, by rw [Hmu.out], by go_num, O, HU2, B⟩
                              case measure => simp [intOf]; omega
                            · rw [hT] at rX
                              have HU2 : Hid (∀a b, Va tt i j true a b = Va t2 i j true a b) := fun a b => by
                                unfold Va
                                by_cases e : a = i ∧ b = j
                                · rw [if_pos e, if_pos e]
                                · rw [if_neg e, if_neg e]
                                  cases hu : u
                                  · exact (HU.out.1 hu).1 a b
                                  · rw [HU.out.2 hu]; unfold Va; rw [if_neg e]
                              have ci := O.c i (by omega)
                              obtain ⟨ri, fi⟩ := O.r i (by omega) j _ (YN _ (show j < N + 1 by omega))
                              have O2 := O.set (i := i) (j := j) (by omega) (by omega) true
                              have hRi := (O.ne i (by omega)).2
                              obtain ⟨Ri, hRi2⟩ : ∃Ri, Ri = rk i := ⟨_, rfl⟩
                              rw [← hRi2] at ci ri fi O2 hRi
                              have HB2 : Hid (Below W.heap.size W (wr.setCell ⟨Ri, j, none⟩ (.bool true))) := B.setCell (p := ⟨Ri, j, none⟩) (by show W.heap.size ≤ Ri; rw [Hz0.out]; exact hRi) _
                              have HO2 : Hid (Uo (w.heap.size + 1) (w.heap.size + 1) N rk (Va tt i j true) (N + 1) (wr.setCell ⟨Ri, j, none⟩ (.bool true))) := O2
                              clear HU hX hY hT hil O O2 hRi hRi2 B hRX hmi hqi hvi hi1 hmj hqj hvj hj1
                              go_wp2_with fail
                              (try simp only [Act.put])
                              go_roundw
                              case rel => exact ⟨c + 1, true, _, by omega, by simp, by go_num, HO2.out, ⟨(fun h => by cases h), fun _ => HU2.out⟩, HB2.out⟩
                              case measure => simp [intOf]; omega
                      · have hcn2 : ¬(c : Int) < (n : Int) := by omega
                        have hce : c = n := by omega
                        subst hce
                        cases u
                        · have HC2 : Hid (mu = false → QP M c N tt i (j + 1)) := fun h a b ha hb h3 h4 d hd => by
                            have hm : m = false := by have := Hmu.out; rw [h] at this; simpa using this.symm
                            obtain ⟨u1, u2⟩ := HU.out.1 rfl
                            rw [u1] at h4 ⊢
                            by_cases e : a = i ∧ b = j
                            · obtain ⟨rfl, rfl⟩ := e; exact u2 d hd
                            · exact HC.out hm a b ha hb (by omega) h4 d hd
                          have HV2 : Hid (∀a b, tt a b = false → vM M a = vM M b) := fun a b h => HV.out a b (by rw [← (HU.out.1 rfl).1]; exact h)
                          have Hop2 : Hid (opn N rk wr + (if mu then 1 else 0) ≤ OP) := by
                            show _ ≤ _
                            have h1 : JZ N tt = JZ N t2 := by unfold JZ; exact List.countP_congr (fun p _ => by rw [(HU.out.1 rfl).1])
                            have h2 := Hop.out
                            rw [HO.out] at h2
                            rw [O.opn, h1, Hmu.out, Bool.or_false]; exact h2
                          clear HU HC HV Hop HO Hmu HX2
                          go_wp2_with fail
                          go_roundw
                          case rel => exact ⟨tt, mu, j + 1, rfl, by go_num, by omega, O, HV2, HC2, Hop2, B⟩
                          case measure => simp [intOf]; omega
                        · have hu := HU.out.2 rfl
                          have HC2 : Hid (mu = false → QP M c N tt i (j + 1)) := fun h => by have := Hmu.out; rw [h] at this; simp at this
                          have HV2 : Hid (∀a b, tt a b = false → vM M a = vM M b) := fun a b h => HV.out a b (LU (by rw [← hu]; exact h))
                          have Hop2 : Hid (opn N rk wr + (if mu then 1 else 0) ≤ OP) := by
                            show _ ≤ _
                            have h1 : JZ N tt = JZ N (Va t2 i j true) := by unfold JZ; exact List.countP_congr (fun p _ => by rw [hu])
                            have h2 := Hop.out
                            have h3 := Hi (N := N) (t := t2) (i := i) (j := j) (by omega) (by omega) HX2.out
                            rw [HO.out] at h2
                            rw [O.opn, h1, Hmu.out, Bool.or_true, if_pos rfl]; omega
                          clear HU HC HV Hop HO Hmu HX2 hu
                          go_wp2_with fail
                          go_roundw
                          case rel => exact ⟨tt, mu, j + 1, rfl, by go_num, by omega, O, HV2, HC2, Hop2, B⟩
                          case measure => simp [intOf]; omega
                  · rw [hX2] at cr
                    have HC2 : Hid (m = false → QP M n N t2 i (j + 1)) := fun h a b ha hb h3 h4 => by
                      by_cases e : a = i ∧ b = j
                      · obtain ⟨rfl, rfl⟩ := e; rw [hX2] at h4; cases h4
                      · exact HC.out h a b ha hb (by omega) h4
                    clear HC hX2
                    go_wp2_with fail
                    go_roundw
                    case rel => exact ⟨t2, m, j + 1, rfl, by go_num, by omega, O, HV, HC2, Hop, B⟩
                    case measure => simp [intOf]; omega
                · have hge2 : ¬(j : Int) < (N : Int) + 1 := by omega
                  have HC2 : m = false → QP M n N t2 (i + 1) 0 := fun h a b ha hb h3 h4 => HC.out h a b ha hb (by omega) h4
                  have HC3 : Hid (m = false → QP M n N t2 (i + 1) 0) := HC2
                  clear HC HC2
                  go_wp2_with fail
                  go_roundw
                  case rel => exact ⟨t2, m, i + 1, rfl, by go_num, by omega, O, HV, HC3.out, Hop.out, B⟩
                  case measure => simp [intOf]; omega
            · have hge2 : ¬(i : Int) < (N : Int) + 1 := by omega
              have hiN : i = N + 1 := by omega
              subst hiN
              have Hm : Hid (2 * opn N rk wr + (if m then 1 else 0) < 2 * OP + 1) := by
                show _ < _
                have := Hop.out
                cases m<;>simp at this ⊢<;>omega
              have HC2 : Hid (m = false → QP M n N t (N + 1) 0) := HC
              clear HC Hop
              go_wp2_with fail
              go_roundw
              case rel => exact ⟨t, m, rfl, O, HV, HC2.out, B⟩
              case measure =>
                have h1 := Hm.out
                have h2 := HOP.out
                cases m<;>simp [Ju] at h1 ⊢<;>omega
end Go.Proofs.Ytoaaklhpmhjhkab
