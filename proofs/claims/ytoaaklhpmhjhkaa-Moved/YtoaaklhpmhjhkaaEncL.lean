/-
  Contract of the reference's Encode.
-/
import Derived.Test.YtoaaklhpmhjhkaaEncJ
import Derived.Test.YtoaaklhpmhjhkaaEncK
namespace Go.Proofs.Ytoaaklhpmhjhkaa
open Go.RowKit

theorem eOwns_below {w w' : World} {base : Nat} {e : TypeId} {sz n : Nat} {v : Value} {xs : List Value} (h : w.ownsRow base e sz v n xs) (hW : Below w.heap.size w w') : w'.ownsRow base e sz v n xs := by
  refine ⟨h.1, ?_⟩
  rcases h.2 with h0 | ⟨g', cap', cur, hv', hb, hg, hrest⟩
  · exact Or.inl h0
  · refine Or.inr ⟨g', cap', cur, hv', hb, ?_, hrest⟩
    rw [hW.block g' ?_]; exact hg
    rcases Nat.lt_or_ge g' w.heap.size with hlt | hge
    · exact hlt
    · rw [Array.getElem?_eq_none hge] at hg; cases hg
/-- Bytes of ours. -/
def OwnB (base : Nat) (v : Value) (l : List UInt8) (w : World) : Prop := w.ownsRow base 5 1 v l.length (bys l)
theorem OwnB.below {base : Nat} {v : Value} {l : List UInt8} {w w' : World} (h : OwnB base v l w) (hW : Below w.heap.size w w') : OwnB base v l w' := eOwns_below h hW
theorem OwnB.ge {base : Nat} {v : Value} {l : List UInt8} {w : World} (h : OwnB base v l w) : ∀ k, v.ownBlock = some k → base ≤ k := fun k hk => (h.lt k hk).1
theorem wpList_appB {w : World} {ops : Array Oper} {rest : List Oper} {o : Oper} {a : Act} {Q : Exit → Act → World → Prop} (hgd : o.guard = none) (s x : Operand)
    (ho : o.op = .call { callee := .builtin .append, args := #[s, x], argTypes := #[106, 106] }) (base : Nat)
    (v : Value) (l : List UInt8) (hs : a.eval s = v) (hown : OwnB base v l w) (hn : l.length ≤ 1000000)
    (B : Nat) (y : UInt8) (hx : a.eval x = .slice (some ⟨B, 0, none⟩) 1 1) (hnews : w.cell? ⟨B, 0, none⟩ = some (.int .u8 (y.toNat : Int))) (hbase : base ≤ w.heap.size)
    (h : ∀ g cap w', OwnB base (.slice (some ⟨g, 0, none⟩) (l.length + 1) cap) (l ++ [y]) w' → w.grownBy w' v.ownBlock → wpList Try.prog ops Q rest (a.put o.dst (.slice (some ⟨g, 0, none⟩) (l.length + 1) cap)) w') : wpList Try.prog ops Q (o :: rest) a w := by
  obtain ⟨i, hi, hz0, hz1, hz2⟩ := eInfoU8
  refine wpList_append_lies w hgd s x 106 ho base 5 i (.int .u8 0) 1 1 Try.underlying106 hi hz0 hz1 hz2 rfl (by omega) v l.length (bys l) hs hown ⟨B, 0, none⟩ 1 1 [.int .u8 (y.toNat : Int)] hx rfl ?_ (by simp [Value.oneCell']) (by omega) (by unfold maxLen; omega) (by omega) hbase w.heap.size rfl ?_
  · intro j u hu
    rcases j with _ | j
    · simp at hu; subst hu; simpa [Addr.add_mid] using hnews
    · simp at hu
  · intro g cap w' h1 h2 h3 h4
    refine h g cap w' ?_ h2
    have e : bys l ++ [.int .u8 (y.toNat : Int)] = bys (l ++ [y]) := by simp [bys]
    rw [e] at h1
    unfold OwnB
    rw [List.length_append]; exact h1
theorem step_appB {w : World} {ops : Array Oper} {o : Oper} {a : Act} {K : Act → World → Prop} {Q : Exit → Act → World → Prop} {E : Prop} (hgd : o.guard = none) (s x : Operand)
    (ho : o.op = .call { callee := .builtin .append, args := #[s, x], argTypes := #[106, 106] }) (base : Nat)
    (v : Value) (l : List UInt8) (hs : a.eval s = v) (hown : OwnB base v l w) (hn : l.length ≤ 1000000)
    (B : Nat) (y z : UInt8) (hx : a.eval x = .slice (some ⟨B, 0, none⟩) 2 2) (hn0 : w.cell? ⟨B, 0, none⟩ = some (.int .u8 (y.toNat : Int))) (hn1 : w.cell? ⟨B, 1, none⟩ = some (.int .u8 (z.toNat : Int))) (hbase : base ≤ w.heap.size)
    (h : ∀ g cap w', OwnB base (.slice (some ⟨g, 0, none⟩) (l.length + 2) cap) (l ++ [y, z]) w' → w.grownBy w' v.ownBlock → K (a.put o.dst (.slice (some ⟨g, 0, none⟩) (l.length + 2) cap)) w') :
    if Region.wanted o (yielded ops a.tmps) = true then Oper.wp Try.prog o a w K Q else E := by
  obtain ⟨i, hi, hz0, hz1, hz2⟩ := eInfoU8
  refine step_append_lies w hgd s x 106 ho base 5 i (.int .u8 0) 1 1 Try.underlying106 hi hz0 hz1 hz2 rfl (by omega) v l.length (bys l) hs hown ⟨B, 0, none⟩ 2 2 [.int .u8 (y.toNat : Int), .int .u8 (z.toNat : Int)] hx rfl ?_ (by simp [Value.oneCell']) (by omega) (by unfold maxLen; omega) (by omega) hbase w.heap.size rfl ?_
  · intro j u hu
    rcases j with _ | _ | j
    · simp at hu; subst hu; simpa [Addr.add_mid] using hn0
    · simp at hu; subst hu; simpa [Addr.add_mid] using hn1
    · simp at hu
  · intro g cap w' h1 h2 h3 h4
    refine h g cap w' ?_ h2
    have e : bys l ++ [.int .u8 (y.toNat : Int), .int .u8 (z.toNat : Int)] = bys (l ++ [y, z]) := by simp [bys]
    rw [e] at h1
    unfold OwnB
    rw [List.length_append]; exact h1
theorem new1 (w : World) (x : Int) : (w.alloc (.cells #[.int .u8 (x % 256)] 5)).cell? ⟨w.heap.size, 0, none⟩ = some (.int .u8 ((byteOf x).toNat : Int)) := by
  rw [World.cell?_alloc_new, byteOf_toNat]; rfl
theorem wpList_app6 {w : World} {ops : Array Oper} {rest : List Oper} {o : Oper} {a : Act} {Q : Exit → Act → World → Prop} (hgd : o.guard = none) (s x : Operand)
    (ho : o.op = .call { callee := .builtin .append, args := #[s, x], argTypes := #[106, 106] }) (base : Nat)
    (g : Nat) (l : List UInt8) (hs : a.eval s = .slice (some ⟨g, 0, none⟩) l.length l.length) (hG : Grows base (.slice (some ⟨g, 0, none⟩) l.length l.length) (bys l) w) (hn : l.length ≤ 1000)
    (B : Nat) (l2 : List UInt8) (hl2 : l2.length = 6) (hx : a.eval x = .slice (some ⟨B, 0, none⟩) 6 6) (hnews : ∀ j u, (bys l2)[j]? = some u → w.cell? ⟨B, j, none⟩ = some u)
    (h : ∀ v w', OwnB w.heap.size v (l ++ l2) w' → w.grownBy w' none → wpList Try.prog ops Q rest (a.put o.dst v) w') : wpList Try.prog ops Q (o :: rest) a w := by
  obtain ⟨i, hi, hz0, hz1, hz2⟩ := eInfoU8
  refine wpList_append_grows w hgd s x 106 ho 5 i (.int .u8 0) 1 1 Try.underlying106 hi hz0 hz1 hz2 rfl (by omega) (some ⟨g, 0, none⟩) l.length l.length (bys l) hs (fun h => by cases h) (by rw [bys_len]; omega) ?_ ⟨B, 0, none⟩ 6 6 (bys l2) hx (by rw [bys_len]; omega) ?_ ?_ (by omega) (by unfold maxLen; omega) (by omega) ?_
  · intro b hb j u hu
    cases hb
    rcases hG with ⟨h, _⟩ | ⟨g', cap, h0, _, _, _, h4, _⟩
    · cases h
    · have hg : g = g' := by simpa [Value.ownBlock] using congrArg Value.ownBlock h0
      subst hg
      rw [Addr.add_lit, Nat.zero_add]; exact h4 j u hu
  · intro j u hu
    rw [Addr.add_lit, Nat.zero_add]; exact hnews j u hu
  · intro u hu
    simp only [bys, List.mem_map] at hu
    obtain ⟨y, _, rfl⟩ := hu
    rfl
  · intro v' w' h1 h2
    refine h v' w' ?_ h2
    rw [← bys_append] at h1
    unfold OwnB
    rw [List.length_append, hl2]; exact h1
theorem new6 (w : World) (x1 x2 x3 x4 x5 x6 : Int) : ∀ j u, (bys [byteOf x1, byteOf x2, byteOf x3, byteOf x4, byteOf x5, byteOf x6])[j]? = some u →
    (w.alloc (.cells #[.int .u8 (x1 % 256), .int .u8 (x2 % 256), .int .u8 (x3 % 256), .int .u8 (x4 % 256), .int .u8 (x5 % 256), .int .u8 (x6 % 256)] 5)).cell? ⟨w.heap.size, j, none⟩ = some u := by
  intro j u hu
  rw [World.cell?_alloc_new]
  rcases j with _ | _ | _ | _ | _ | _ | j <;> simp [bys, byteOf_toNat] at hu ⊢ <;> exact hu

set_option maxRecDepth 100000 in
set_option maxHeartbeats 4000000 in
theorem refEncode_any (T : Tb) (A : TbA) (w : World) (hs : TbSz T) (hI : TbIn T A w) : Calls Try.prog 40 #[.agg (A.cells T)] w (EncPost T w) := by
  have hB0 := bel_box w (.cells (A.cells T) 26)
  have hAt0 := TbAt.boxed T A w 26
  have hI0 := hI.below hB0
  have m1 : T.ncl ≤ maxLen := by have := hs.s1; unfold maxLen; omega
  have HS : Hid (Calls Try.prog 69 #[.agg (A.cells T)] (w.alloc (.cells (A.cells T) 26)) (BPostB (Snd T) (w.alloc (.cells (A.cells T) 26)))) := refSound_any T A _ hs hI0
  unfold TbA.cells at *
  go_enter Try.func40, Try.ntmps40
  go_wp2_with fail
  refine HS.out.mono ?_
  rintro e w1 ⟨bb, rfl, hbb, hB1⟩
  have hW1 : Below w.heap.size w w1 := hB0.trans (hB1.mono hB0.size)
  have hAt1 := hAt0.below hB1
  have hI1 := hI0.below hB1
  have hbx : w.heap.size < w1.heap.size := Nat.lt_of_lt_of_le hAt0.lt hB1.size
  clear HS hB0 hAt0 hI0 hI hB1
  generalize hbxe : w.heap.size = bx at *
  cases bb
  · have HN : Hid (¬ Snd T) := fun h => by have := hbb.2 h; cases this
    clear hbb
    go_wp2_with fail
    go_ret2
    exact ⟨by rw [hbxe]; exact hW1, Or.inr ⟨HN.out, rfl⟩⟩
  have hS : Snd T := hbb.1 rfl
  clear hbb
  have HSn : Hid (Snd T) := hS
  have nc0 := hS.hd.2.2.1
  have nc1 := cls_le T.cl T.ncl
  have nr := hS.hd.1
  have nl := hS.hd.2.1
  have n5 := hS.e5
  have n1 : T.ncl = 256 := by
    rcases Nat.decEq T.ncl 256 with h | h
    · simp [cls, h] at nc0
    · exact h
  have N3 : Hid (T.nbs = T.nlb) := hS.e3
  have N4 : Hid (T.ndf = T.nlb) := hS.e4
  have N6 : Hid (T.nnx = T.nck) := hS.e6
  have N1 : Hid (T.ncl = 256) := n1
  have hnb : T.nbs ≤ 96 := by have := hS.e3; omega
  have HI : Hid (∀ w', Below w1.heap.size w1 w' → TbIn T A w') := fun w' hW => hI1.below hW
  have HAt : Hid (∀ w', Below w1.heap.size w1 w' → TbAt bx T A w') := fun w' hW => hAt1.below hW
  have HI3 : Hid (IL A.a3 T.bs T.nbs w1) := hI1.l3
  have F2 : Hid (Calls Try.prog 56 #[.slice A.a1 T.ncl A.c1] w1 fun e w' => e = .returned (.int .i64 (cls T.cl T.ncl)) ∧ w' = w1) := refClasses_any _ _ _ _ _ m1 hI1.l1
  have HW1 : Hid (Below bx w w1) := hW1
  have Hbx : Hid (w.heap.size = bx) := hbxe
  clear hS n1 hI1 hW1 hbxe
  obtain ⟨d0, d1, d2, d3, d4, d5, d6⟩ := hAt1
  go_wp2_with fail
  go_loop [6, 7] (fun x i => ∃ k : Nat, k ≤ T.nbs ∧ i = .int .i64 k ∧ x = .int .i64 (wideTo T.bs k)) (fun _ i => T.nbs - (intOf i).toNat)
  case atStart => exact ⟨0, by omega, rfl, rfl⟩
  case round =>
    obtain ⟨k, hk, rfl, rfl⟩ := hrel
    by_cases hlt : k < T.nbs
    · have hlt' : (k : Int) < (T.nbs : Int) := by omega
      obtain ⟨b3, o3, h3, c3⟩ := HI3.out k hlt
      rw [h3] at d3
      have HWD : Hid (wideTo T.bs (k + 1) = if 255 < T.bs k then 2 else wideTo T.bs k) := rfl
      by_cases h255 : 255 < T.bs k
      · have HW2 : Hid (wideTo T.bs (k + 1) = 2) := by show _ = _; rw [HWD.out, if_pos h255]
        go_wp2_with fail
        go_round
        case rel => exact ⟨k + 1, by omega, by go_num, by rw [HW2.out]⟩
        case measure => simp [intOf]; omega
      · have HW2 : Hid (wideTo T.bs (k + 1) = wideTo T.bs k) := by show _ = _; rw [HWD.out, if_neg h255]
        go_wp2_with fail
        go_round
        case rel => exact ⟨k + 1, by omega, by go_num, by rw [HW2.out]⟩
        case measure => simp [intOf]; omega
    · have hge : ¬ (k : Int) < (T.nbs : Int) := by omega
      have hkn : k = T.nbs := by omega
      subst hkn
      have hwc := wideTo_cases T.bs T.nbs
      have HWc : Hid (wideTo T.bs T.nbs = 1 ∨ wideTo T.bs T.nbs = 2) := hwc
      have hwl : 1 ≤ wideTo T.bs T.nbs ∧ wideTo T.bs T.nbs ≤ 2 := by omega
      clear hwc
      go_wp2_with fail
      refine F2.out.mono ?_
      rintro e w1 ⟨rfl, rfl⟩
      clear F2 HI3
      have kc : (convert 106 106 (.slice (some ⟨w1.heap.size, 0, none⟩) 4 4)).run Try.prog (w1.alloc (.cells #[.int .u8 77, .int .u8 85, .int .u8 78, .int .u8 49] 5)) = .ok (.slice (some ⟨w1.heap.size, 0, none⟩) 4 4) (w1.alloc (.cells #[.int .u8 77, .int .u8 85, .int .u8 78, .int .u8 49] 5 (4, 5))) :=
        Lib.run_convert_bytes_const (P := Try.prog) w1 106 5 #[.int .u8 77, .int .u8 85, .int .u8 78, .int .u8 49] 4 4 Try.underlying106 Try.underlying5
      have hG1 := Grows.magic w1.heap.size w1 (Nat.le_refl _)
      have hB2 : Below w1.heap.size w1 (w1.alloc (.cells #[.int .u8 77, .int .u8 85, .int .u8 78, .int .u8 49] 5 (4, 5))) := bel_box _ _
      obtain ⟨W, hWeq⟩ : ∃ W, W = w1.alloc (.cells #[.int .u8 77, .int .u8 85, .int .u8 78, .int .u8 49] 5 (4, 5)) := ⟨_, rfl⟩
      rw [← hWeq] at kc hG1 hB2
      have hWsz : W.heap.size = w1.heap.size + 1 := by rw [hWeq]; simp
      clear hWeq d0 d1 d2 d3 d4 d5 d6
      obtain ⟨d0, d1, d2, d3, d4, d5, d6⟩ := HAt.out W hB2
      have HH : Hid (bodyL T = (((([77, 85, 78, 49] ++ [byteOf T.rules, byteOf ((cls T.cl T.ncl : Int) - 1), byteOf T.nlb, byteOf ((T.nck : Int) / 256), byteOf T.nck, byteOf (wideTo T.bs T.nbs)] ++ mapB T.cl T.ncl 0) ++ mapB T.lb T.nlb 1) ++ basesB T.bs T.nbs (wideTo T.bs T.nbs)) ++ mapB T.df T.ndf 1) ++ cellsB T.ck T.nx T.nck) := rfl
      generalize cls T.cl T.ncl = c at *
      generalize wideTo T.bs T.nbs = wd at *
      have n6 := new6 W T.rules ((c : Int) - 1) T.nlb ((T.nck : Int) / 256) T.nck wd
      rw [show T.rules % 256 = T.rules by omega, show ((c : Int) - 1) % 256 = (c : Int) - 1 by omega, show (T.nlb : Int) % 256 = (T.nlb : Int) by omega, show (T.nck : Int) / 256 % 256 = (T.nck : Int) / 256 by omega, show wd % 256 = wd by omega] at n6
      have hG2 := hG1.alloc (.cells #[.int .u8 T.rules, .int .u8 ((c : Int) - 1), .int .u8 (T.nlb : Int), .int .u8 ((T.nck : Int) / 256), .int .u8 ((T.nck : Int) % 256), .int .u8 wd] 5)
      have hB3 := hB2.alloc hB2.size (.cells #[.int .u8 T.rules, .int .u8 ((c : Int) - 1), .int .u8 (T.nlb : Int), .int .u8 ((T.nck : Int) / 256), .int .u8 ((T.nck : Int) % 256), .int .u8 wd] 5)
      have HWs : Hid (W.heap.size = w1.heap.size + 1) := hWsz
      clear hWsz hB2
      go_wp2_with (first | (at_builtin; refine wpList_app6 (by rfl) _ _ (by rfl) w1.heap.size w1.heap.size [77, 85, 78, 49] (by rfl) hG2 (by simp) W.heap.size [byteOf T.rules, byteOf ((c : Int) - 1), byteOf T.nlb, byteOf ((T.nck : Int) / 256), byteOf T.nck, byteOf wd] rfl (by rfl) n6 ?_; intro v2 w2 hO2 hgrow2))
      have hB4 : Below w1.heap.size w1 w2 := hB3.grown hgrow2 hB3.size (fun k hk => by cases hk)
      have hbase : w1.heap.size ≤ (W.alloc (.cells #[.int .u8 T.rules, .int .u8 ((c : Int) - 1), .int .u8 (T.nlb : Int), .int .u8 ((T.nck : Int) / 256), .int .u8 ((T.nck : Int) % 256), .int .u8 wd] 5)).heap.size := hB3.size
      have hbs2 := hgrow2.size
      clear hgrow2 hB3 hG2 n6 hG1 kc d0 d1 d2 d3 d4 d5 d6 HWs
      generalize (W.alloc (.cells #[.int .u8 T.rules, .int .u8 ((c : Int) - 1), .int .u8 (T.nlb : Int), .int .u8 ((T.nck : Int) / 256), .int .u8 ((T.nck : Int) % 256), .int .u8 wd] 5)).heap.size = base at *
      generalize hHD : ([77, 85, 78, 49] ++ [byteOf T.rules, byteOf ((c : Int) - 1), byteOf T.nlb, byteOf ((T.nck : Int) / 256), byteOf T.nck, byteOf wd] : List UInt8) = HD at *
      have hnd : T.ndf ≤ 96 := by have := N4.out; omega
      have hnd : T.ndf ≤ 96 := by have := N4.out; omega
      have hnd : T.ndf ≤ 96 := by have := N4.out; omega
      have HHl : Hid (HD.length ≤ 10) := by show _ ≤ _; rw [← hHD]; exact Nat.le_refl 10
      have HR2 : Hid (∀ i, i < T.nlb → -1 ≤ T.lb i ∧ T.lb i ≤ 1000000) := fun i hi => by have h1 := HSn.out.hd.2.2.2 i hi; omega
      have HR4 : Hid (∀ i, i < T.ndf → -1 ≤ T.df i ∧ T.df i ≤ 1000000) := fun i hi => by have h0 := N4.out; have h1 := HSn.out.b4 i (by omega); omega
      have HR5 : Hid (∀ i, i < T.nck → (-1 ≤ T.ck i ∧ T.ck i ≤ 1000000) ∧ (-1 ≤ T.nx i ∧ T.nx i ≤ 1000000)) := fun i hi => by
        rcases HSn.out.cs i hi with h | h
        · omega
        · omega
      clear hHD
      have hB := hB4
      have hbs := hbs2
      clear hB4 hbs2
      go_wp2_with fail
      -- the class of each byte
      go_loopw [9, 10] (fun v i w' => ∃ k : Nat, k ≤ 256 ∧ i = .int .i64 k ∧ OwnB base v (HD ++ mapB T.cl k 0) w' ∧ Below w1.heap.size w1 w' ∧ base ≤ w'.heap.size) (fun _ i _ => 256 - (intOf i).toNat)
      case atStart => exact ⟨0, by omega, rfl, by simpa [mapB] using hO2, hB, hbs⟩
      case round =>
        clear hO2 hB hbs
        obtain ⟨k, hk, rfl, hO, hB, hbs⟩ := hrel
        by_cases hlt : k < 256
        · have hlt' : (k : Int) < (256) := by omega
          have hkn : (k : Int) < (T.ncl : Int) := by have := N1.out; omega
          obtain ⟨bL, oL, hL, cL⟩ := (HI.out wr hB).l1 k (by have := N1.out; omega)
          have dL := (HAt.out wr hB).c1
          rw [hL] at dL
          clear hL
          have HS2 : Hid (HD ++ mapB T.cl (k + 1) 0 = (HD ++ mapB T.cl k 0) ++ [byteOf (T.cl k)]) := by show _ = _; rw [mapB_succ, Int.add_zero, List.append_assoc]
          have hlen : (HD ++ mapB T.cl k 0).length ≤ 1000000 := by have := HHl.out; rw [List.length_append, mapB_len]; omega
          generalize HD ++ mapB T.cl k 0 = L at *
          generalize T.cl k = x at *
          have hO2 := hO.below (bel_box wr (.cells #[.int .u8 (x % 256)] 5))
          have hB2 := hB.alloc hB.size (.cells #[.int .u8 (x % 256)] 5)
          have hnw := new1 wr x
          go_wp2_with (first | (at_builtin; refine wpList_appB (by rfl) _ _ (by rfl) base u9 L (by rfl) hO2 hlen wr.heap.size (byteOf x) (by rfl) hnw (by simp; omega) ?_; intro g cap w2 hO3 hgrow))
          go_roundw
          case rel => exact ⟨k + 1, by omega, by go_num, by rw [HS2.out]; exact hO3, hB2.grown hgrow (Nat.le_trans hB.size (by simp)) (fun q hq => Nat.le_trans hbase (hO.ge q hq)), Nat.le_trans hbs (Nat.le_trans (by simp) hgrow.size)⟩
          case measure => simp [intOf]; omega
        · have hge : ¬ (k : Int) < (256) := by omega
          have hkk : k = T.ncl := by have := N1.out; omega
          have hk2 : k = 256 := by omega
          have HHl2 : Hid ((HD ++ mapB T.cl T.ncl 0).length ≤ 266) := by show _ ≤ _; have := HHl.out; have := N1.out; rw [List.length_append, mapB_len]; omega
          have hO4 : OwnB base u9 (HD ++ mapB T.cl T.ncl 0) wr := by rw [← hkk]; exact hO
          clear hkk hlt hO
          generalize HD ++ mapB T.cl T.ncl 0 = HD2 at *
          go_wp2_with fail
          -- the labels
          go_loopw [9, 11] (fun v i w' => ∃ k : Nat, k ≤ T.nlb ∧ i = .int .i64 k ∧ OwnB base v (HD2 ++ mapB T.lb k 1) w' ∧ Below w1.heap.size w1 w' ∧ base ≤ w'.heap.size) (fun _ i _ => T.nlb - (intOf i).toNat)
          case atStart => exact ⟨0, by omega, rfl, by simpa [mapB] using hO4, hB, hbs⟩
          case round =>
            clear hO4 hB hbs
            obtain ⟨k, hk, rfl, hO, hB, hbs⟩ := hrel
            by_cases hlt : k < T.nlb
            · have hlt' : (k : Int) < (T.nlb : Int) := by omega
              obtain ⟨bL, oL, hL, cL⟩ := (HI.out wr hB).l2 k (by omega)
              have dL := (HAt.out wr hB).c2
              rw [hL] at dL
              clear hL
              have HS2 : Hid (HD2 ++ mapB T.lb (k + 1) 1 = (HD2 ++ mapB T.lb k 1) ++ [byteOf (T.lb k + 1)]) := by show _ = _; rw [mapB_succ, List.append_assoc]
              have hxr := HR2.out k (by omega)
              have hlen : (HD2 ++ mapB T.lb k 1).length ≤ 1000000 := by have := HHl2.out; rw [List.length_append, mapB_len]; omega
              generalize HD2 ++ mapB T.lb k 1 = L at *
              generalize T.lb k = x at *
              have hO2 := hO.below (bel_box wr (.cells #[.int .u8 ((x + 1) % 256)] 5))
              have hB2 := hB.alloc hB.size (.cells #[.int .u8 ((x + 1) % 256)] 5)
              have hnw := new1 wr (x + 1)
              go_wp2_with (first | (at_builtin; refine wpList_appB (by rfl) _ _ (by rfl) base u9 L (by rfl) hO2 hlen wr.heap.size (byteOf (x + 1)) (by rfl) hnw (by simp; omega) ?_; intro g cap w2 hO3 hgrow))
              go_roundw
              case rel => exact ⟨k + 1, by omega, by go_num, by rw [HS2.out]; exact hO3, hB2.grown hgrow (Nat.le_trans hB.size (by simp)) (fun q hq => Nat.le_trans hbase (hO.ge q hq)), Nat.le_trans hbs (Nat.le_trans (by simp) hgrow.size)⟩
              case measure => simp [intOf]; omega
            · have hge : ¬ (k : Int) < (T.nlb : Int) := by omega
              have hkk : k = T.nlb := by omega
              have dT := (HAt.out wr hB).c2
              have HHl3 : Hid ((HD2 ++ mapB T.lb T.nlb 1).length ≤ 362) := by show _ ≤ _; have := HHl2.out; rw [List.length_append, mapB_len]; omega
              have hO4 : OwnB base u9 (HD2 ++ mapB T.lb T.nlb 1) wr := by rw [← hkk]; exact hO
              clear hkk hlt hO
              generalize HD2 ++ mapB T.lb T.nlb 1 = HD3 at *
              go_wp2_with fail
              clear dT
              -- the bases
              go_loopw [9, 12] (fun v i w' => ∃ k : Nat, k ≤ T.nbs ∧ i = .int .i64 k ∧ OwnB base v (HD3 ++ basesB T.bs k wd) w' ∧ Below w1.heap.size w1 w' ∧ base ≤ w'.heap.size) (fun _ i _ => T.nbs - (intOf i).toNat)
              case atStart => exact ⟨0, by omega, rfl, by simpa [basesB] using hO4, hB, hbs⟩
              case round =>
                clear hO4 hB hbs
                obtain ⟨k, hk, rfl, hO, hB, hbs⟩ := hrel
                by_cases hlt : k < T.nbs
                · have hlt' : (k : Int) < (T.nbs : Int) := by omega
                  obtain ⟨bL, oL, hL, cL⟩ := (HI.out wr hB).l3 k hlt
                  have dL := (HAt.out wr hB).c3
                  have HC : Hid (∀ w', Below w1.heap.size w1 w' → w'.cell? ⟨bx, 3, none⟩ = some (.slice (some ⟨bL, oL, none⟩) T.nbs A.c3) ∧ w'.cell? ⟨bL, oL + k, none⟩ = some (.int .i64 (T.bs k))) := fun w' h' => by
                    obtain ⟨b', o', h1, h2⟩ := (HI.out w' h').l3 k hlt
                    rw [hL] at h1
                    cases h1
                    exact ⟨by rw [← hL]; exact (HAt.out w' h').c3, h2⟩
                  rw [hL] at dL
                  clear hL
                  have hlen : (HD3 ++ basesB T.bs k wd).length ≤ 900000 := by have := HHl3.out; have := basesB_len T.bs wd k; rw [List.length_append]; omega
                  by_cases h2 : wd = 2
                  · have HS2 : Hid (HD3 ++ basesB T.bs (k + 1) wd = ((HD3 ++ basesB T.bs k wd) ++ [byteOf (T.bs k / 256)]) ++ [byteOf (T.bs k)]) := by show _ = _; rw [basesB_succ, if_pos h2]; simp
                    generalize HD3 ++ basesB T.bs k wd = L at *
                    generalize T.bs k = x at *
                    have hO2 := hO.below (bel_box wr (.cells #[.int .u8 (x / 256 % 256)] 5))
                    have hB2 := hB.alloc hB.size (.cells #[.int .u8 (x / 256 % 256)] 5)
                    have hnw := new1 wr (x / 256)
                    have q2 : (wd == 2) = true := by simpa using h2
                    clear h2
                    go_wp2_with (first | (at_builtin; refine wpList_appB (by rfl) _ _ (by rfl) base u9 L (by rfl) hO2 (by omega) wr.heap.size (byteOf (x / 256)) (by rfl) hnw (by simp; omega) ?_; intro g cap w2 hO3 hgrow; have hB3 := hB2.grown hgrow (Nat.le_trans hB.size (by simp)) (fun q hq => Nat.le_trans hbase (hO.ge q hq)); have hbs3 := Nat.le_trans hbs (Nat.le_trans (by simp) hgrow.size); obtain ⟨e1, e2⟩ := HC.out w2 hB3; clear hgrow hB2 hO2 hnw hO hB hbs dL cL; generalize hLL : L ++ [byteOf (x / 256)] = L2 at *; have hL2 : L2.length = L.length + 1 := by rw [← hLL]; simp; done) | (at_builtin; refine wpList_appB (by rfl) _ _ (by rfl) base _ L2 (by rfl) (hO3.below (bel_box w2 (.cells #[.int .u8 (x % 256)] 5))) (by omega) w2.heap.size (byteOf x) (by rfl) (new1 w2 x) (by simp; omega) ?_; intro g' cap' w3 hO4 hgrow'))
                    go_roundw
                    case rel => exact ⟨k + 1, by omega, by go_num, by rw [HS2.out, ← hL2]; exact hO4, hB3.alloc hB3.size (.cells #[.int .u8 (x % 256)] 5) |>.grown hgrow' (Nat.le_trans hB3.size (by simp)) (fun q hq => Nat.le_trans hbase (hO3.ge q hq)), Nat.le_trans hbs3 (Nat.le_trans (by simp) hgrow'.size)⟩
                    case measure => simp [intOf]; omega
                  · have HS2 : Hid (HD3 ++ basesB T.bs (k + 1) wd = (HD3 ++ basesB T.bs k wd) ++ [byteOf (T.bs k)]) := by show _ = _; rw [basesB_succ, if_neg h2]; simp
                    generalize HD3 ++ basesB T.bs k wd = L at *
                    generalize T.bs k = x at *
                    have hO2 := hO.below (bel_box wr (.cells #[.int .u8 (x % 256)] 5))
                    have hB2 := hB.alloc hB.size (.cells #[.int .u8 (x % 256)] 5)
                    have hnw := new1 wr x
                    have q2 : (wd == 2) = false := by simpa using h2
                    clear h2
                    go_wp2_with (first | (at_builtin; refine wpList_appB (by rfl) _ _ (by rfl) base u9 L (by rfl) hO2 (by omega) wr.heap.size (byteOf x) (by rfl) hnw (by simp; omega) ?_; intro g cap w2 hO3 hgrow))
                    go_roundw
                    case rel => exact ⟨k + 1, by omega, by go_num, by rw [HS2.out]; exact hO3, hB2.grown hgrow (Nat.le_trans hB.size (by simp)) (fun q hq => Nat.le_trans hbase (hO.ge q hq)), Nat.le_trans hbs (Nat.le_trans (by simp) hgrow.size)⟩
                    case measure => simp [intOf]; omega
                · have hge : ¬ (k : Int) < (T.nbs : Int) := by omega
                  have hkk : k = T.nbs := by omega
                  have dT := (HAt.out wr hB).c3
                  have HHl4 : Hid ((HD3 ++ basesB T.bs T.nbs wd).length ≤ 600) := by show _ ≤ _; have := HHl3.out; have := basesB_len T.bs wd T.nbs; rw [List.length_append]; omega
                  have hO4 : OwnB base u9 (HD3 ++ basesB T.bs T.nbs wd) wr := by rw [← hkk]; exact hO
                  clear hkk hlt hO
                  generalize HD3 ++ basesB T.bs T.nbs wd = HD4 at *
                  go_wp2_with fail
                  clear dT
                  -- what they fall back on
                  go_loopw [9, 13] (fun v i w' => ∃ k : Nat, k ≤ T.ndf ∧ i = .int .i64 k ∧ OwnB base v (HD4 ++ mapB T.df k 1) w' ∧ Below w1.heap.size w1 w' ∧ base ≤ w'.heap.size) (fun _ i _ => T.ndf - (intOf i).toNat)
                  case atStart => exact ⟨0, by omega, rfl, by simpa [mapB] using hO4, hB, hbs⟩
                  case round =>
                    clear hO4 hB hbs
                    obtain ⟨k, hk, rfl, hO, hB, hbs⟩ := hrel
                    by_cases hlt : k < T.ndf
                    · have hlt' : (k : Int) < (T.ndf : Int) := by omega
                      have hkn : (k : Int) < (T.ndf : Int) := by have := N4.out; omega
                      obtain ⟨bL, oL, hL, cL⟩ := (HI.out wr hB).l4 k (by have := N4.out; omega)
                      have dL := (HAt.out wr hB).c4
                      rw [hL] at dL
                      clear hL
                      have HS2 : Hid (HD4 ++ mapB T.df (k + 1) 1 = (HD4 ++ mapB T.df k 1) ++ [byteOf (T.df k + 1)]) := by show _ = _; rw [mapB_succ, List.append_assoc]
                      have hxr := HR4.out k (by omega)
                      have hlen : (HD4 ++ mapB T.df k 1).length ≤ 1000000 := by have := HHl4.out; rw [List.length_append, mapB_len]; omega
                      generalize HD4 ++ mapB T.df k 1 = L at *
                      generalize T.df k = x at *
                      have hO2 := hO.below (bel_box wr (.cells #[.int .u8 ((x + 1) % 256)] 5))
                      have hB2 := hB.alloc hB.size (.cells #[.int .u8 ((x + 1) % 256)] 5)
                      have hnw := new1 wr (x + 1)
                      go_wp2_with (first | (at_builtin; refine wpList_appB (by rfl) _ _ (by rfl) base u9 L (by rfl) hO2 hlen wr.heap.size (byteOf (x + 1)) (by rfl) hnw (by simp; omega) ?_; intro g cap w2 hO3 hgrow))
                      go_roundw
                      case rel => exact ⟨k + 1, by omega, by go_num, by rw [HS2.out]; exact hO3, hB2.grown hgrow (Nat.le_trans hB.size (by simp)) (fun q hq => Nat.le_trans hbase (hO.ge q hq)), Nat.le_trans hbs (Nat.le_trans (by simp) hgrow.size)⟩
                      case measure => simp [intOf]; omega
                    · have hge : ¬ (k : Int) < (T.ndf : Int) := by omega
                      have hkk : k = T.ndf := by have := N4.out; omega
                      have dT := (HAt.out wr hB).c4
                      have HHl5 : Hid ((HD4 ++ mapB T.df T.ndf 1).length ≤ 700) := by show _ ≤ _; have := HHl4.out; have := N4.out; rw [List.length_append, mapB_len]; omega
                      have hO4 : OwnB base u9 (HD4 ++ mapB T.df T.ndf 1) wr := by rw [← hkk]; exact hO
                      clear hkk hlt hO
                      generalize HD4 ++ mapB T.df T.ndf 1 = HD5 at *
                      go_wp2_with fail
                      clear dT
                      -- the cells
                      go_loopw [9, 14] (fun v i w' => ∃ k : Nat, k ≤ T.nck ∧ i = .int .i64 k ∧ OwnB base v (HD5 ++ cellsB T.ck T.nx k) w' ∧ Below w1.heap.size w1 w' ∧ base ≤ w'.heap.size) (fun _ i _ => T.nck - (intOf i).toNat)
                      case atStart => exact ⟨0, by omega, rfl, by simpa [cellsB] using hO4, hB, hbs⟩
                      case round =>
                        clear hO4 hB hbs
                        obtain ⟨k, hk, rfl, hO, hB, hbs⟩ := hrel
                        by_cases hlt : k < T.nck
                        · have hlt' : (k : Int) < (T.nck : Int) := by omega
                          have hlt6 : (k : Int) < (T.nnx : Int) := by have := N6.out; omega
                          obtain ⟨b5, o5, h5, c5⟩ := (HI.out wr hB).l5 k hlt
                          obtain ⟨b6, o6, h6, c6⟩ := (HI.out wr hB).l6 k (by have := N6.out; omega)
                          have d5 := (HAt.out wr hB).c5
                          have d6 := (HAt.out wr hB).c6
                          have HC : Hid (∀ w', Below w1.heap.size w1 w' → w'.cell? ⟨bx, 5, none⟩ = some (.slice (some ⟨b5, o5, none⟩) T.nck A.c5) ∧ w'.cell? ⟨b5, o5 + k, none⟩ = some (.int .i64 (T.ck k)) ∧ w'.cell? ⟨bx, 6, none⟩ = some (.slice (some ⟨b6, o6, none⟩) T.nnx A.c6) ∧ w'.cell? ⟨b6, o6 + k, none⟩ = some (.int .i64 (T.nx k))) := fun w' h' => by
                            obtain ⟨b', o', h1, h2⟩ := (HI.out w' h').l5 k hlt
                            rw [h5] at h1
                            cases h1
                            obtain ⟨b'', o'', h3, h4⟩ := (HI.out w' h').l6 k (by have := N6.out; omega)
                            rw [h6] at h3
                            cases h3
                            exact ⟨by rw [← h5]; exact (HAt.out w' h').c5, h2, by rw [← h6]; exact (HAt.out w' h').c6, h4⟩
                          rw [h5] at d5
                          rw [h6] at d6
                          clear h5 h6
                          have HS2 : Hid (HD5 ++ cellsB T.ck T.nx (k + 1) = (HD5 ++ cellsB T.ck T.nx k) ++ [byteOf (T.ck k + 1), byteOf (T.nx k + 1)]) := by show _ = _; rw [cellsB_succ, List.append_assoc]
                          have hxr := HR5.out k hlt
                          have hlen : (HD5 ++ cellsB T.ck T.nx k).length ≤ 1000000 := by have := HHl5.out; rw [List.length_append, cellsB_len]; omega
                          generalize HD5 ++ cellsB T.ck T.nx k = L at *
                          generalize T.ck k = x at *
                          generalize T.nx k = y at *
                          have hwx : IntKind.u8.wrap (IntKind.i64.wrap (x + 1)) = ((byteOf (x + 1)).toNat : Int) := by rw [byteOf_toNat, IntKind.wrap_u8', IntKind.wrap_i64]; omega
                          have hwy : IntKind.u8.wrap (IntKind.i64.wrap (y + 1)) = ((byteOf (y + 1)).toNat : Int) := by rw [byteOf_toNat, IntKind.wrap_u8', IntKind.wrap_i64]; omega
                          have Hwx : Hid (IntKind.u8.wrap (IntKind.i64.wrap (x + 1)) = ((byteOf (x + 1)).toNat : Int)) := hwx
                          have Hwy : Hid (IntKind.u8.wrap (IntKind.i64.wrap (y + 1)) = ((byteOf (y + 1)).toNat : Int)) := hwy
                          clear hwx hwy
                          go_wp2_with fail
                          have hO2 : OwnB base u9 L (wr.alloc (.cells #[.int .u8 (IntKind.u8.wrap (IntKind.i64.wrap (x + 1))), .int .u8 (IntKind.u8.wrap (IntKind.i64.wrap (y + 1)))] 5)).drew := hO.below (((Below.refl _ _).alloc (Nat.le_refl _) _).drew)
                          have hB2 : Below w1.heap.size w1 (wr.alloc (.cells #[.int .u8 (IntKind.u8.wrap (IntKind.i64.wrap (x + 1))), .int .u8 (IntKind.u8.wrap (IntKind.i64.wrap (y + 1)))] 5)).drew := (hB.alloc hB.size _).drew
                          have hn0 : (wr.alloc (.cells #[.int .u8 (IntKind.u8.wrap (IntKind.i64.wrap (x + 1))), .int .u8 (IntKind.u8.wrap (IntKind.i64.wrap (y + 1)))] 5)).drew.cell? ⟨wr.heap.size, 0, none⟩ = some (.int .u8 ((byteOf (x + 1)).toNat : Int)) := by rw [← Hwx.out]; exact World.cell?_alloc_new wr _ _ 0
                          have hn1 : (wr.alloc (.cells #[.int .u8 (IntKind.u8.wrap (IntKind.i64.wrap (x + 1))), .int .u8 (IntKind.u8.wrap (IntKind.i64.wrap (y + 1)))] 5)).drew.cell? ⟨wr.heap.size, 1, none⟩ = some (.int .u8 ((byteOf (y + 1)).toNat : Int)) := by rw [← Hwy.out]; exact World.cell?_alloc_new wr _ _ 1
                          have hbs2 : base ≤ (wr.alloc (.cells #[.int .u8 (IntKind.u8.wrap (IntKind.i64.wrap (x + 1))), .int .u8 (IntKind.u8.wrap (IntKind.i64.wrap (y + 1)))] 5)).drew.heap.size := Nat.le_trans hbs (by simp)
                          go_region_held3 (fun w' => w'.cell? ⟨bx, 5, none⟩ = some (.slice (some ⟨b5, o5, none⟩) T.nck A.c5) ∧ w'.cell? ⟨b5, o5 + k, none⟩ = some (.int .i64 x) ∧ w'.cell? ⟨bx, 6, none⟩ = some (.slice (some ⟨b6, o6, none⟩) T.nnx A.c6) ∧ w'.cell? ⟨b6, o6 + k, none⟩ = some (.int .i64 y)) (first | exact HC.out _ hB | exact HC.out _ hB.drew | exact HC.out _ hB2 | exact HC.out _ (hB2.grown hgrow hB2.size (fun q hq => Nat.le_trans hbase (hO.ge q hq))) | go_keep)
                            ((refine step_appB (by rfl) _ _ (by rfl) base u9 L (by rfl) hO2 hlen wr.heap.size (byteOf (x + 1)) (byteOf (y + 1)) (by rfl) hn0 hn1 hbs2 ?_; intro g cap w2 hO3 hgrow))
                          go_wp2_with fail
                          go_roundw
                          case rel => exact ⟨k + 1, by omega, by go_num, by rw [HS2.out]; exact hO3, hB2.grown hgrow hB2.size (fun q hq => Nat.le_trans hbase (hO.ge q hq)), Nat.le_trans hbs2 hgrow.size⟩
                          case measure => simp [intOf]; omega
                        · have hge : ¬ (k : Int) < (T.nck : Int) := by omega
                          have hkk : k = T.nck := by omega
                          have hbodl : (bodyL T).length ≤ 1000000 := by rw [HH.out]; have := HHl5.out; rw [List.length_append, cellsB_len]; omega
                          have hO4 : OwnB base u9 (bodyL T) wr := by rw [HH.out, ← hkk]; exact hO
                          have hbod0 : 0 < (bodyL T).length := by
                            have h10 : (bodyL T).length = _ := rfl
                            unfold bodyL at h10 ⊢
                            simp only [List.length_append, List.length_cons]
                            omega
                          clear hkk hO HHl HHl2 HHl3 HHl4 HHl5 HR2 HR4 HR5
                          generalize hbody : bodyL T = body at *
                          have HF : Hid (fileL T = body ++ sumL body) := by show _ = _; rw [fileL, hbody]
                          clear hbody HH
                          rcases Grows.ofOwns hO4 with ⟨_, h⟩ | ⟨g, cap, rfl, _, _, _, q4, _⟩
                          · have : (bys body).length = 0 := by rw [h]; rfl
                            rw [bys_len] at this; omega
                          rw [bys_len] at *
                          obtain ⟨s1, hs1⟩ : ∃ s1 : ByteArray, s1 = ⟨body.toArray⟩ := ⟨_, rfl⟩
                          obtain ⟨s2, hs2⟩ : ∃ s2 : ByteArray, s2 = ⟨(sumL body).toArray⟩ := ⟨_, rfl⟩
                          have z1 : s1.size ≤ 1000000 := by rw [hs1]; simpa [ByteArray.size] using hbodl
                          have z2 : s2.size = 4 := by rw [hs2]; rfl
                          have hconv : (convert 106 9 (.slice (some ⟨g, 0, none⟩) body.length cap)).run Try.prog wr = .ok (.string s1) wr := by
                            rw [hs1]
                            exact run_convert_bytes_back (P := Try.prog) wr 106 9 5 ⟨g, 0, none⟩ cap body Try.underlying106 Try.underlying5 Try.underlying9 (fun j hj => by
                              rw [Addr.add_lit, Nat.zero_add]
                              exact q4 j _ (by simp [bys, hj]))
                          have HSl : Hid (Calls Try.prog 70 #[.string s1] wr fun e w' => e = .returned (.string s2) ∧ Below wr.heap.size wr w') := by
                            have h := refSum_any s1 wr z1
                            rw [show sumL s1.data.toList = sumL body by rw [hs1], ← hs2] at h
                            exact h
                          have HFF : Hid ((⟨(fileL T).toArray⟩ : ByteArray) = s1 ++ s2) := by
                            show _ = _
                            rw [HF.out, hs1, hs2]
                            exact cat_bytes _ _
                          clear q4 hs1 hs2 HF hO4
                          go_wp2_with fail
                          refine HSl.out.mono ?_
                          rintro e w13 ⟨rfl, hW13⟩
                          go_wp2_with fail
                          go_ret2
                          refine ⟨?_, Or.inl ⟨HSn.out, ?_⟩⟩
                          · have h1 := hB.trans (hW13.mono hB.size)
                            have h2 := HW1.out
                            rw [Hbx.out]
                            exact h2.trans (h1.mono (by omega))
                          · rw [HFF.out]
                            rfl
end Go.Proofs.Ytoaaklhpmhjhkaa
