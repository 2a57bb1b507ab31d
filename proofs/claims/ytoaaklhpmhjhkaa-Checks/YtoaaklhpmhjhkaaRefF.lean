/-
  Contract of the reference's set.
-/
import Derived.Test.YtoaaklhpmhjhkaaRefE
namespace Go.Proofs.Ytoaaklhpmhjhkaa
open Go.RowKit

/-- 256 times false. -/
def blank : Array Value := madeCells #[.bool false] 256
theorem blank_at (k : Nat) (h : k < 256) : blank[k]? = some (.bool false) := by
  simp [blank, madeCells, h, Nat.mod_one]
theorem info_bool : ∃ i, Try.prog.info? 4 = some i ∧ i.zero = some (.bool false) ∧ i.size = 1 ∧ i.bytes = 1 := by
  have h1 : (Try.prog.info? 4).isSome = true := by kernel_rfl
  obtain ⟨i, hi⟩ := Option.isSome_iff_exists.1 h1
  refine ⟨i, hi, ?_, ?_, ?_⟩
  · have : ((Try.prog.info? 4).bind (·.zero)) = some (.bool false) := by kernel_rfl
    rw [hi] at this; exact this
  · have : ((Try.prog.info? 4).map (·.size)) = some 1 := by kernel_rfl
    rw [hi] at this; simpa using this
  · have : ((Try.prog.info? 4).map (·.bytes)) = some 1 := by kernel_rfl
    rw [hi] at this; simpa using this
theorem run_blank (w : World) : (Instr.makeSlice 124 (.int .i64 256) (.int .i64 256)).run Try.prog w = .ok (.slice (some ⟨w.heap.size, 0, none⟩) 256 256) (w.alloc (.cells blank 4)) := by
  obtain ⟨i, hi, hz, hn, hb⟩ := info_bool
  have h := run_make (P := Try.prog) w 124 4 i (.bool false) Try.underlying124 hi hz .i64 .i64 256 256 (by decide) (by decide) (by rw [hb]; decide) (by decide)
  rw [hn] at h
  exact h
theorem BRow.blank (w : World) (t : TypeId) : BRow w.heap.size (fun _ => false) (w.alloc (.cells blank t)) := fun k hk => by
  refine ⟨?_, ?_⟩
  · rw [World.cell?_alloc_new]; exact blank_at k hk
  · go_simp

theorem range_start (inb : Nat → Bool) (a : Int) (y : Nat) (_ : y < 256) : inb y = (inb y || (decide (a ≤ (y : Int)) && decide ((y : Int) < a))) := by
  rw [Bool.eq_iff_iff]; simp; omega
theorem range_step (inb : Nat → Bool) (a : Int) (t : Nat) (h : a ≤ t) (y : Nat) (_ : y < 256) : (if y = t then true else (inb y || (decide (a ≤ (y : Int)) && decide ((y : Int) < t)))) = (inb y || (decide (a ≤ (y : Int)) && decide ((y : Int) < (t : Int) + 1))) := by
  by_cases e : y = t
  · subst e; rw [if_pos rfl]; cases inb y <;> simp <;> omega
  · rw [if_neg e]
    cases inb y
    · rw [Bool.false_or, Bool.false_or, Bool.eq_iff_iff]; simp; omega
    · rfl
theorem range_end (inb : Nat → Bool) (a b t : Int) (_h0 : a ≤ t) (h1 : t = a ∨ t ≤ b + 1) (hn : ¬ t ≤ b) (y : Nat) (_ : y < 256) : (inb y || (decide (a ≤ (y : Int)) && decide ((y : Int) < t))) = (inb y || (decide (a ≤ (y : Int)) && decide ((y : Int) ≤ b))) := by
  cases inb y
  · rw [Bool.false_or, Bool.false_or, Bool.eq_iff_iff]; simp; omega
  · rfl

set_option maxRecDepth 100000 in
set_option maxHeartbeats 2000000 in
theorem set_any (s : ByteArray) (k : Nat) (j : Nat) (fa : Int) (inn : Nat → Bool) (w : World) (hs : s.size ≤ 40) (h : Rf.set (s.data.toList.drop (k + 1)) k = some (j, fa, inn)) :
    Calls Try.prog 117 #[.string s, .int .i64 k] w fun e w' => e = .returned (.tuple #[.slice (some ⟨w.heap.size, 0, none⟩) 256 256, .int .i64 j, .int .i64 fa]) ∧ BRow w.heap.size inn w' ∧ Below w.heap.size w w' := by
  rcases hd : s.data.toList.drop (k + 1) with _ | ⟨c, r⟩
  · rw [hd] at h; cases h
  obtain ⟨hk, hc, hr⟩ := at_of_drop hd
  rw [hd] at h
  have hm := run_blank w
  by_cases e94 : c = 94
  · have hb : ((s[k + 1].toNat : Int) == 94) = true := by rw [hc, e94]; rfl
    obtain ⟨j0, inn0, h0, hj, hi⟩ : ∃ j0 inn0, Rf.items (r.length + 1) (s.data.toList.drop (k + 2)) (k + 2) (-1) (fun _ => false) = some (j0, fa, inn0) ∧ j = j0 + 1 ∧ inn = fun x => inn0 x != true := by
      simp only [Rf.set, e94, if_true] at h
      rw [hr]
      cases hx : Rf.items (r.length + 1) r (k + 2) (-1) (fun _ => false) with
      | none => rw [hx] at h; cases h
      | some x =>
        rw [hx] at h
        simp only [Option.map_some, Option.some.injEq, Prod.mk.injEq] at h
        exact ⟨x.1, x.2.2, by rw [← h.2.1], h.1.symm, h.2.2.symm⟩
    subst hj; subst hi
    clear hc hr hd e94 h
    go_enter Try.func117, Try.ntmps117
    go_wp2_with fail
    clear hm
    go_loopw [1, 8] (fun i fl w' => ∃ (f k' : Nat) (fb : Int) (inb : Nat → Bool), i = .int .i64 k' ∧ fl = .int .i64 fb ∧ BRow w.heap.size inb w' ∧ Below w.heap.size w w' ∧ Hid (Rf.items f (s.data.toList.drop k') k' fb inb = some (j0, fa, inn0))) (fun i _ _ => s.size - (intOf i).toNat)
    case atStart => exact ⟨_, k + 2, -1, fun _ => false, by go_num, rfl, BRow.blank w _, (Below.refl _ _).alloc (Nat.le_refl _) _, h0⟩
    case round =>
      obtain ⟨f, k', fb, inb, rfl, rfl, hB, hW, HS⟩ := hrel
      rcases f with _ | f
      · exact absurd HS.out (by simp [Rf.items])
      rcases hd : s.data.toList.drop k' with _ | ⟨c, r⟩
      · have := HS.out; rw [hd] at this; simp [Rf.items] at this
      obtain ⟨hk', hc, hr⟩ := at_of_drop hd
      have hI := HS.out
      rw [hd] at hI
      by_cases e93 : c = 93
      · have hb : ((s[k'].toNat : Int) == 93) = true := by rw [hc, e93]; rfl
        have hR : k' = j0 ∧ fb = fa ∧ inb = inn0 := by
          simp only [Rf.items, e93, if_true, Option.some.injEq, Prod.mk.injEq] at hI; exact hI
        obtain ⟨rfl, rfl, rfl⟩ := hR
        clear hc hr hd hI HS h0 e93
        go_wp2_with fail
        go_loopw [14] (fun i w' => ∃ k2 : Nat, k2 ≤ 256 ∧ i = .int .i64 k2 ∧ BRow w.heap.size (fun x => if x < k2 then !inb x else inb x) w' ∧ Below w.heap.size w w') (fun i _ => 256 - (intOf i).toNat)
        case atStart => exact ⟨0, by omega, rfl, hB.congr (by simp), hW⟩
        case round =>
          obtain ⟨k2, hk2, rfl, hB2, hW2⟩ := hrel
          by_cases hlt : k2 < 256
          · obtain ⟨hcc, hff⟩ := hB2 k2 hlt
            simp only [Nat.lt_irrefl, if_false] at hcc
            have hB3 := hB2.set k2 hlt (!inb k2)
            go_wp2_with fail
            go_roundw
            case rel =>
              refine ⟨k2 + 1, by omega, by go_num, hB3.congr (fun y _ => ?_), hW2.trans (below_set _ _ _ _)⟩
              by_cases e1 : y = k2
              · subst e1; simp
              · by_cases e2 : y < k2
                · simp [e1, e2, Nat.lt_succ_of_lt e2]
                · simp [e1, e2, show ¬ y < k2 + 1 by omega]
            case measure => simp [intOf]; omega
          · go_wp2_with fail
            go_ret3
            exact ⟨by first | rfl | (simp; done) | go_num, hB2.congr (fun y hy => by simp [show y < k2 by omega]), hW2⟩
      · have hb : ((s[k'].toNat : Int) == 93) = false := by rw [hc]; exact bne_of e93
        rcases ho : Rf.one (c :: r) with _ | ⟨a, n⟩
        · simp only [Rf.items, if_neg e93, ho] at hI; cases hI
        have ho' : Rf.one (s.data.toList.drop k') = some (a, n) := by rw [hd]; exact ho
        obtain ⟨ha0, ha1, hn1, hn4⟩ := Rf.one_bd ho
        rcases hd2 : (c :: r).drop n with _ | ⟨d, l'⟩
        · simp only [Rf.items, if_neg e93, ho, hd2] at hI; cases hI
        have hd2' : s.data.toList.drop (k' + n) = d :: l' := by rw [← List.drop_drop, hd]; exact hd2
        obtain ⟨hkn, hcn, hrn⟩ := at_of_drop hd2'
        by_cases e45 : d = 45
        · have hb45 : ((s[k' + n].toNat : Int) == 45) = true := by rw [hcn, e45]; rfl
          rcases ho2 : Rf.one l' with _ | ⟨b, n'⟩
          · simp only [Rf.items, if_neg e93, ho, hd2, if_pos e45, ho2] at hI; cases hI
          have ho2' : Rf.one (s.data.toList.drop (k' + n + 1)) = some (b, n') := by rw [hrn]; exact ho2
          obtain ⟨hb0, hb1, hn1', hn4'⟩ := Rf.one_bd ho2
          have hItems : Hid (Rf.items f (s.data.toList.drop (k' + n + 1 + n')) (k' + n + 1 + n') (if b < a ∧ fb < 0 then (k' : Int) else fb) (fun y => inb y || (decide (a ≤ (y : Int)) && decide ((y : Int) ≤ b))) = some (j0, fa, inn0)) := by
            show _ = _
            simp only [Rf.items, if_neg e93, ho, hd2, if_pos e45, ho2] at hI
            rw [← List.drop_drop, hrn]; exact hI
          clear hc hr hd hI HS h0 e93 hcn hrn hd2 hd2' e45
          by_cases hf : b < a ∧ fb < 0
          · rw [if_pos hf] at hItems
            go_wp2_with fail
            refine (one_at s k' _ a n _ hs rfl ho').mono ?_
            rintro e w1 ⟨rfl, q, rfl⟩
            go_wp2_with fail
            refine (one_at s (k' + n + 1) _ b n' _ hs (by omega) ho2').mono ?_
            rintro e w1 ⟨rfl, q2, rfl⟩
            clear ho ho' ho2 ho2'
            go_wp2_with fail
            go_loopw [13] (fun x w' => ∃ t : Int, x = .int .i64 t ∧ a ≤ t ∧ (t = a ∨ t ≤ b + 1) ∧ BRow w.heap.size (fun y => inb y || (decide (a ≤ (y : Int)) && decide ((y : Int) < t))) w' ∧ Below w.heap.size w w') (fun x _ => (257 - intOf x).toNat)
            case atStart => exact ⟨a, rfl, Int.le_refl _, Or.inl rfl, BRow.congr (by first | exact hB | exact hB.drewN _ | exact (hB.drewN _).drewN _) (range_start inb a), by first | exact hW | exact hW.trans (below_drewN _ _ _) | exact (hW.trans (below_drewN _ _ _)).trans (below_drewN _ _ _)⟩
            case round =>
              obtain ⟨t, rfl, ht0, ht1, hB2, hW2⟩ := hrel
              by_cases hle : t ≤ b
              · first
                | (exfalso; omega)
                | (obtain ⟨tn, rfl⟩ := Int.eq_ofNat_of_zero_le (show 0 ≤ t by omega)
                   obtain ⟨hcc, hff⟩ := hB2 tn (by omega)
                   have hB3 := hB2.set tn (by omega) true
                   have htn : (tn : Int) < 256 := by omega
                   go_wp2_with fail
                   go_roundw
                   case rel => exact ⟨(tn : Int) + 1, rfl, by omega, by omega, hB3.congr (range_step inb a tn ht0), hW2.trans (below_set _ _ _ _)⟩
                   case measure => simp [intOf]; omega)
              · go_wp2_with fail
                go_roundw
                case rel => exact ⟨f, k' + n + 1 + n', (k' : Int), _, by go_num, rfl, hB2.congr (range_end inb a b t ht0 ht1 hle), hW2, hItems⟩
                case measure => simp [intOf]; omega

          · rw [if_neg hf] at hItems
            have hg : b < a → ¬ fb < 0 := fun h1 h2 => hf ⟨h1, h2⟩
            clear hf
            by_cases hba : b < a
            all_goals
              go_wp2_with fail
              refine (one_at s k' _ a n _ hs rfl ho').mono ?_
              rintro e w1 ⟨rfl, q, rfl⟩
              go_wp2_with fail
              refine (one_at s (k' + n + 1) _ b n' _ hs (by omega) ho2').mono ?_
              rintro e w1 ⟨rfl, q2, rfl⟩
              go_wp2_with fail
              go_loopw [13] (fun x w' => ∃ t : Int, x = .int .i64 t ∧ a ≤ t ∧ (t = a ∨ t ≤ b + 1) ∧ BRow w.heap.size (fun y => inb y || (decide (a ≤ (y : Int)) && decide ((y : Int) < t))) w' ∧ Below w.heap.size w w') (fun x _ => (257 - intOf x).toNat)
              case atStart => exact ⟨a, rfl, Int.le_refl _, Or.inl rfl, BRow.congr (by first | exact hB | exact hB.drewN _ | exact (hB.drewN _).drewN _) (range_start inb a), by first | exact hW | exact hW.trans (below_drewN _ _ _) | exact (hW.trans (below_drewN _ _ _)).trans (below_drewN _ _ _)⟩
              case round =>
                obtain ⟨t, rfl, ht0, ht1, hB2, hW2⟩ := hrel
                by_cases hle : t ≤ b
                · first
                  | (exfalso; omega)
                  | (obtain ⟨tn, rfl⟩ := Int.eq_ofNat_of_zero_le (show 0 ≤ t by omega)
                     obtain ⟨hcc, hff⟩ := hB2 tn (by omega)
                     have hB3 := hB2.set tn (by omega) true
                     have htn : (tn : Int) < 256 := by omega
                     go_wp2_with fail
                     go_roundw
                     case rel => exact ⟨(tn : Int) + 1, rfl, by omega, by omega, hB3.congr (range_step inb a tn ht0), hW2.trans (below_set _ _ _ _)⟩
                     case measure => simp [intOf]; omega)
                · go_wp2_with fail
                  go_roundw
                  case rel => exact ⟨f, k' + n + 1 + n', fb, _, by go_num, rfl, hB2.congr (range_end inb a b t ht0 ht1 hle), hW2, hItems⟩
                  case measure => simp [intOf]; omega

        · have hb45 : ((s[k' + n].toNat : Int) == 45) = false := by rw [hcn]; exact bne_of e45
          have hItems : Hid (Rf.items f (s.data.toList.drop (k' + n)) (k' + n) fb (fun y => inb y || (decide (a ≤ (y : Int)) && decide ((y : Int) ≤ a))) = some (j0, fa, inn0)) := by
            show _ = _
            simp only [Rf.items, if_neg e93, ho, hd2, if_neg e45] at hI
            rw [hd2']; exact hI
          clear hc hr hd hI HS h0 e93 hcn hrn hd2 hd2' e45
          go_wp2_with fail
          refine (one_at s k' _ a n _ hs rfl ho').mono ?_
          rintro e w1 ⟨rfl, q, rfl⟩
          go_wp2_with fail
          go_loopw [13] (fun x w' => ∃ t : Int, x = .int .i64 t ∧ a ≤ t ∧ (t = a ∨ t ≤ a + 1) ∧ BRow w.heap.size (fun y => inb y || (decide (a ≤ (y : Int)) && decide ((y : Int) < t))) w' ∧ Below w.heap.size w w') (fun x _ => (257 - intOf x).toNat)
          case atStart => exact ⟨a, rfl, Int.le_refl _, Or.inl rfl, BRow.congr (by first | exact hB | exact hB.drewN _ | exact (hB.drewN _).drewN _) (range_start inb a), by first | exact hW | exact hW.trans (below_drewN _ _ _) | exact (hW.trans (below_drewN _ _ _)).trans (below_drewN _ _ _)⟩
          case round =>
            obtain ⟨t, rfl, ht0, ht1, hB2, hW2⟩ := hrel
            by_cases hle : t ≤ a
            · first
              | (exfalso; omega)
              | (obtain ⟨tn, rfl⟩ := Int.eq_ofNat_of_zero_le (show 0 ≤ t by omega)
                 obtain ⟨hcc, hff⟩ := hB2 tn (by omega)
                 have hB3 := hB2.set tn (by omega) true
                 have htn : (tn : Int) < 256 := by omega
                 go_wp2_with fail
                 go_roundw
                 case rel => exact ⟨(tn : Int) + 1, rfl, by omega, by omega, hB3.congr (range_step inb a tn ht0), hW2.trans (below_set _ _ _ _)⟩
                 case measure => simp [intOf]; omega)
            · go_wp2_with fail
              go_roundw
              case rel => exact ⟨f, k' + n, fb, _, by go_num, rfl, hB2.congr (range_end inb a a t ht0 ht1 hle), hW2, hItems⟩
              case measure => simp [intOf]; omega


  · have hb : ((s[k + 1].toNat : Int) == 94) = false := by rw [hc]; exact bne_of e94
    obtain ⟨j0, inn0, h0, hj, hi⟩ : ∃ j0 inn0, Rf.items (r.length + 2) (s.data.toList.drop (k + 1)) (k + 1) (-1) (fun _ => false) = some (j0, fa, inn0) ∧ j = j0 + 1 ∧ inn = fun x => inn0 x != false := by
      simp only [Rf.set, e94, if_false] at h
      rw [hd]
      cases hx : Rf.items (r.length + 2) (c :: r) (k + 1) (-1) (fun _ => false) with
      | none => rw [hx] at h; cases h
      | some x =>
        rw [hx] at h
        simp only [Option.map_some, Option.some.injEq, Prod.mk.injEq] at h
        exact ⟨x.1, x.2.2, by rw [← h.2.1], h.1.symm, h.2.2.symm⟩
    subst hj; subst hi
    clear hc hr hd e94 h
    go_enter Try.func117, Try.ntmps117
    go_wp2_with fail
    clear hm
    go_loopw [1, 8] (fun i fl w' => ∃ (f k' : Nat) (fb : Int) (inb : Nat → Bool), i = .int .i64 k' ∧ fl = .int .i64 fb ∧ BRow w.heap.size inb w' ∧ Below w.heap.size w w' ∧ Hid (Rf.items f (s.data.toList.drop k') k' fb inb = some (j0, fa, inn0))) (fun i _ _ => s.size - (intOf i).toNat)
    case atStart => exact ⟨_, k + 1, -1, fun _ => false, by go_num, rfl, BRow.blank w _, (Below.refl _ _).alloc (Nat.le_refl _) _, h0⟩
    case round =>
      obtain ⟨f, k', fb, inb, rfl, rfl, hB, hW, HS⟩ := hrel
      rcases f with _ | f
      · exact absurd HS.out (by simp [Rf.items])
      rcases hd : s.data.toList.drop k' with _ | ⟨c, r⟩
      · have := HS.out; rw [hd] at this; simp [Rf.items] at this
      obtain ⟨hk', hc, hr⟩ := at_of_drop hd
      have hI := HS.out
      rw [hd] at hI
      by_cases e93 : c = 93
      · have hb : ((s[k'].toNat : Int) == 93) = true := by rw [hc, e93]; rfl
        have hR : k' = j0 ∧ fb = fa ∧ inb = inn0 := by
          simp only [Rf.items, e93, if_true, Option.some.injEq, Prod.mk.injEq] at hI; exact hI
        obtain ⟨rfl, rfl, rfl⟩ := hR
        clear hc hr hd hI HS h0 e93
        go_wp2_with fail
        go_loopw [14] (fun i w' => ∃ k2 : Nat, k2 ≤ 256 ∧ i = .int .i64 k2 ∧ BRow w.heap.size (fun x => if x < k2 then inb x else inb x) w' ∧ Below w.heap.size w w') (fun i _ => 256 - (intOf i).toNat)
        case atStart => exact ⟨0, by omega, rfl, hB.congr (by simp), hW⟩
        case round =>
          obtain ⟨k2, hk2, rfl, hB2, hW2⟩ := hrel
          by_cases hlt : k2 < 256
          · obtain ⟨hcc, hff⟩ := hB2 k2 hlt
            simp only [Nat.lt_irrefl, if_false] at hcc
            have hB3 := hB2.set k2 hlt (inb k2)
            go_wp2_with fail
            go_roundw
            case rel =>
              refine ⟨k2 + 1, by omega, by go_num, hB3.congr (fun y _ => ?_), hW2.trans (below_set _ _ _ _)⟩
              by_cases e1 : y = k2
              · subst e1; simp
              · by_cases e2 : y < k2
                · simp [e1, e2, Nat.lt_succ_of_lt e2]
                · simp [e1, e2, show ¬ y < k2 + 1 by omega]
            case measure => simp [intOf]; omega
          · go_wp2_with fail
            go_ret3
            exact ⟨by first | rfl | (simp; done) | go_num, hB2.congr (fun y hy => by simp [show y < k2 by omega]), hW2⟩
      · have hb : ((s[k'].toNat : Int) == 93) = false := by rw [hc]; exact bne_of e93
        rcases ho : Rf.one (c :: r) with _ | ⟨a, n⟩
        · simp only [Rf.items, if_neg e93, ho] at hI; cases hI
        have ho' : Rf.one (s.data.toList.drop k') = some (a, n) := by rw [hd]; exact ho
        obtain ⟨ha0, ha1, hn1, hn4⟩ := Rf.one_bd ho
        rcases hd2 : (c :: r).drop n with _ | ⟨d, l'⟩
        · simp only [Rf.items, if_neg e93, ho, hd2] at hI; cases hI
        have hd2' : s.data.toList.drop (k' + n) = d :: l' := by rw [← List.drop_drop, hd]; exact hd2
        obtain ⟨hkn, hcn, hrn⟩ := at_of_drop hd2'
        by_cases e45 : d = 45
        · have hb45 : ((s[k' + n].toNat : Int) == 45) = true := by rw [hcn, e45]; rfl
          rcases ho2 : Rf.one l' with _ | ⟨b, n'⟩
          · simp only [Rf.items, if_neg e93, ho, hd2, if_pos e45, ho2] at hI; cases hI
          have ho2' : Rf.one (s.data.toList.drop (k' + n + 1)) = some (b, n') := by rw [hrn]; exact ho2
          obtain ⟨hb0, hb1, hn1', hn4'⟩ := Rf.one_bd ho2
          have hItems : Hid (Rf.items f (s.data.toList.drop (k' + n + 1 + n')) (k' + n + 1 + n') (if b < a ∧ fb < 0 then (k' : Int) else fb) (fun y => inb y || (decide (a ≤ (y : Int)) && decide ((y : Int) ≤ b))) = some (j0, fa, inn0)) := by
            show _ = _
            simp only [Rf.items, if_neg e93, ho, hd2, if_pos e45, ho2] at hI
            rw [← List.drop_drop, hrn]; exact hI
          clear hc hr hd hI HS h0 e93 hcn hrn hd2 hd2' e45
          by_cases hf : b < a ∧ fb < 0
          · rw [if_pos hf] at hItems
            go_wp2_with fail
            refine (one_at s k' _ a n _ hs rfl ho').mono ?_
            rintro e w1 ⟨rfl, q, rfl⟩
            go_wp2_with fail
            refine (one_at s (k' + n + 1) _ b n' _ hs (by omega) ho2').mono ?_
            rintro e w1 ⟨rfl, q2, rfl⟩
            clear ho ho' ho2 ho2'
            go_wp2_with fail
            go_loopw [13] (fun x w' => ∃ t : Int, x = .int .i64 t ∧ a ≤ t ∧ (t = a ∨ t ≤ b + 1) ∧ BRow w.heap.size (fun y => inb y || (decide (a ≤ (y : Int)) && decide ((y : Int) < t))) w' ∧ Below w.heap.size w w') (fun x _ => (257 - intOf x).toNat)
            case atStart => exact ⟨a, rfl, Int.le_refl _, Or.inl rfl, BRow.congr (by first | exact hB | exact hB.drewN _ | exact (hB.drewN _).drewN _) (range_start inb a), by first | exact hW | exact hW.trans (below_drewN _ _ _) | exact (hW.trans (below_drewN _ _ _)).trans (below_drewN _ _ _)⟩
            case round =>
              obtain ⟨t, rfl, ht0, ht1, hB2, hW2⟩ := hrel
              by_cases hle : t ≤ b
              · first
                | (exfalso; omega)
                | (obtain ⟨tn, rfl⟩ := Int.eq_ofNat_of_zero_le (show 0 ≤ t by omega)
                   obtain ⟨hcc, hff⟩ := hB2 tn (by omega)
                   have hB3 := hB2.set tn (by omega) true
                   have htn : (tn : Int) < 256 := by omega
                   go_wp2_with fail
                   go_roundw
                   case rel => exact ⟨(tn : Int) + 1, rfl, by omega, by omega, hB3.congr (range_step inb a tn ht0), hW2.trans (below_set _ _ _ _)⟩
                   case measure => simp [intOf]; omega)
              · go_wp2_with fail
                go_roundw
                case rel => exact ⟨f, k' + n + 1 + n', (k' : Int), _, by go_num, rfl, hB2.congr (range_end inb a b t ht0 ht1 hle), hW2, hItems⟩
                case measure => simp [intOf]; omega

          · rw [if_neg hf] at hItems
            have hg : b < a → ¬ fb < 0 := fun h1 h2 => hf ⟨h1, h2⟩
            clear hf
            by_cases hba : b < a
            all_goals
              go_wp2_with fail
              refine (one_at s k' _ a n _ hs rfl ho').mono ?_
              rintro e w1 ⟨rfl, q, rfl⟩
              go_wp2_with fail
              refine (one_at s (k' + n + 1) _ b n' _ hs (by omega) ho2').mono ?_
              rintro e w1 ⟨rfl, q2, rfl⟩
              go_wp2_with fail
              go_loopw [13] (fun x w' => ∃ t : Int, x = .int .i64 t ∧ a ≤ t ∧ (t = a ∨ t ≤ b + 1) ∧ BRow w.heap.size (fun y => inb y || (decide (a ≤ (y : Int)) && decide ((y : Int) < t))) w' ∧ Below w.heap.size w w') (fun x _ => (257 - intOf x).toNat)
              case atStart => exact ⟨a, rfl, Int.le_refl _, Or.inl rfl, BRow.congr (by first | exact hB | exact hB.drewN _ | exact (hB.drewN _).drewN _) (range_start inb a), by first | exact hW | exact hW.trans (below_drewN _ _ _) | exact (hW.trans (below_drewN _ _ _)).trans (below_drewN _ _ _)⟩
              case round =>
                obtain ⟨t, rfl, ht0, ht1, hB2, hW2⟩ := hrel
                by_cases hle : t ≤ b
                · first
                  | (exfalso; omega)
                  | (obtain ⟨tn, rfl⟩ := Int.eq_ofNat_of_zero_le (show 0 ≤ t by omega)
                     obtain ⟨hcc, hff⟩ := hB2 tn (by omega)
                     have hB3 := hB2.set tn (by omega) true
                     have htn : (tn : Int) < 256 := by omega
                     go_wp2_with fail
                     go_roundw
                     case rel => exact ⟨(tn : Int) + 1, rfl, by omega, by omega, hB3.congr (range_step inb a tn ht0), hW2.trans (below_set _ _ _ _)⟩
                     case measure => simp [intOf]; omega)
                · go_wp2_with fail
                  go_roundw
                  case rel => exact ⟨f, k' + n + 1 + n', fb, _, by go_num, rfl, hB2.congr (range_end inb a b t ht0 ht1 hle), hW2, hItems⟩
                  case measure => simp [intOf]; omega

        · have hb45 : ((s[k' + n].toNat : Int) == 45) = false := by rw [hcn]; exact bne_of e45
          have hItems : Hid (Rf.items f (s.data.toList.drop (k' + n)) (k' + n) fb (fun y => inb y || (decide (a ≤ (y : Int)) && decide ((y : Int) ≤ a))) = some (j0, fa, inn0)) := by
            show _ = _
            simp only [Rf.items, if_neg e93, ho, hd2, if_neg e45] at hI
            rw [hd2']; exact hI
          clear hc hr hd hI HS h0 e93 hcn hrn hd2 hd2' e45
          go_wp2_with fail
          refine (one_at s k' _ a n _ hs rfl ho').mono ?_
          rintro e w1 ⟨rfl, q, rfl⟩
          go_wp2_with fail
          go_loopw [13] (fun x w' => ∃ t : Int, x = .int .i64 t ∧ a ≤ t ∧ (t = a ∨ t ≤ a + 1) ∧ BRow w.heap.size (fun y => inb y || (decide (a ≤ (y : Int)) && decide ((y : Int) < t))) w' ∧ Below w.heap.size w w') (fun x _ => (257 - intOf x).toNat)
          case atStart => exact ⟨a, rfl, Int.le_refl _, Or.inl rfl, BRow.congr (by first | exact hB | exact hB.drewN _ | exact (hB.drewN _).drewN _) (range_start inb a), by first | exact hW | exact hW.trans (below_drewN _ _ _) | exact (hW.trans (below_drewN _ _ _)).trans (below_drewN _ _ _)⟩
          case round =>
            obtain ⟨t, rfl, ht0, ht1, hB2, hW2⟩ := hrel
            by_cases hle : t ≤ a
            · first
              | (exfalso; omega)
              | (obtain ⟨tn, rfl⟩ := Int.eq_ofNat_of_zero_le (show 0 ≤ t by omega)
                 obtain ⟨hcc, hff⟩ := hB2 tn (by omega)
                 have hB3 := hB2.set tn (by omega) true
                 have htn : (tn : Int) < 256 := by omega
                 go_wp2_with fail
                 go_roundw
                 case rel => exact ⟨(tn : Int) + 1, rfl, by omega, by omega, hB3.congr (range_step inb a tn ht0), hW2.trans (below_set _ _ _ _)⟩
                 case measure => simp [intOf]; omega)
            · go_wp2_with fail
              go_roundw
              case rel => exact ⟨f, k' + n, fb, _, by go_num, rfl, hB2.congr (range_end inb a a t ht0 ht1 hle), hW2, hItems⟩
              case measure => simp [intOf]; omega


end Go.Proofs.Ytoaaklhpmhjhkaa
