/-
  Contract of the program's countPlaces.
-/
import Derived.Test.YtoaaklhpmhjhkaaPartJ
namespace Go.Proofs.Ytoaaklhpmhjhkaa
open Go.RowKit
open Pg (Pt)

set_option maxRecDepth 100000 in
set_option maxHeartbeats 1000000 in
theorem countPlaces_any (v : Value) (ps : List Pt) (base : Nat) (w : World) (hn : ps.length ≤ 100) (hown : w.ownsRow base 146 261 v ps.length (flat ps)) (hmo : ∀ p ∈ ps, 0 ≤ p.mo ∧ p.mo ≤ 9) :
    Calls Try.prog 82 #[v] w fun e w' => e = .returned (.int .i64 (Pg.countPlaces ps)) ∧ Below w.heap.size w w' := by
  rcases hown.2 with ⟨rfl, h0⟩ | ⟨g, cap, cur, rfl, hbg, hgc, _⟩
  · have : ps = [] := List.eq_nil_of_length_eq_zero h0
    subst this
    go_enter Try.func82, Try.ntmps82
    go_wp2_with fail
    go_loop [4, 5, 11] (fun xa xl x => xa = .int .i64 0 ∧ xl = .int .i64 0 ∧ x = .int .i64 0) (fun _ _ _ => 0)
    case atStart => exact ⟨rfl, rfl, rfl⟩
    case round =>
      obtain ⟨rfl, rfl, rfl⟩ := hrel
      go_wp2_with fail
      refine (capped_any _ _).mono ?_
      rintro e W ⟨rfl, rfl⟩
      go_wp2_with fail
      go_ret
      exact ⟨rfl, Below.refl _ _⟩
  · have hgw : g < w.heap.size := by
      rcases Nat.lt_or_ge g w.heap.size with hlt | hge
      · exact hlt
      · rw [Array.getElem?_eq_none hge] at hgc; cases hgc
    clear hgc
    have Hmo : Hid (∀ p ∈ ps, 0 ≤ p.mo ∧ p.mo ≤ 9) := hmo
    clear hmo
    go_enter Try.func82, Try.ntmps82
    go_wp2_with fail
    go_loopw [3, 4, 5, 11] (fun vo xa xl x w' => ∃ (k : Nat) (ah la : Int) (l : List Int), x = .int .i64 k ∧ xa = .int .i64 ah ∧ xl = .int .i64 la ∧ k ≤ ps.length ∧ 0 ≤ ah ∧ ah ≤ 97 ∧ 0 ≤ la ∧ la ≤ 97 ∧ l.length ≤ k ∧ (∀ y ∈ l, 0 ≤ y ∧ y ≤ 97) ∧ w'.ownsRow w.heap.size 3 1 vo l.length (nums l) ∧ w'.ownsRow base 146 261 (.slice (some ⟨g, 0, none⟩) ps.length cap) ps.length (flat ps) ∧ Below w.heap.size w w' ∧ Hid (Pg.cRun ps ⟨0, 0, []⟩ = Pg.cRun (ps.drop k) ⟨ah, la, l.reverse⟩)) (fun _ _ _ x _ => 101 - (intOf x).toNat)
    case atStart => exact ⟨0, 0, 0, [], rfl, rfl, rfl, by omega, by omega, by omega, by omega, by omega, by simp, by simp, ⟨rfl, Or.inl ⟨rfl, rfl⟩⟩, hown, Below.refl _ _, rfl⟩
    case round =>
      obtain ⟨k, ah, la, l, rfl, rfl, rfl, hk, ha0, ha1, hl0, hl1, hll, hly, hV, hO, hB, HL⟩ := hrel
      have Hly : Hid (∀ y ∈ l, 0 ≤ y ∧ y ≤ 97) := hly
      clear hly
      have hcb := capped_bd (ah + la) (by omega)
      by_cases hlt : k < ps.length
      · obtain ⟨p, hp⟩ : ∃ p, ps[k]? = some p := ⟨ps[k], List.getElem?_eq_getElem hlt⟩
        have hdr : ps.drop k = p :: ps.drop (k + 1) := by
          rw [List.drop_eq_getElem_cons hlt]; congr 1; rw [List.getElem?_eq_getElem hlt] at hp; exact Option.some.inj hp
        have hr : wr.rangeAt g (k * 261) (partL p.kd p.pl p.f p.le p.mo p.fa) := owns_range hO k p hp
        have hz := zero_part wr
        have hN := PRow.boxed wr 0 0 (fun _ => false) 0 0 0 146
        have hNf := hN.free
        have hM := hN.put p.kd p.pl p.f p.le p.mo p.fa
        have hW3 : Below wr.heap.size wr ((wr.alloc (Obj.cells (partL 0 0 (fun _ => false) 0 0 0).toArray 146)).setCells wr.heap.size 0 (partL p.kd p.pl p.f p.le p.mo p.fa)) := ((Below.refl _ _).alloc (Nat.le_refl _) _).trans (below_setCells wr.heap.size wr.heap.size 0 (Nat.le_refl _) _ _ 0)
        have hO3 := owns_below hO hW3
        have hB3 := hB.trans (hW3.mono hB.size)
        have hlti : (k : Int) < (ps.length : Int) := by omega
        have hV3 := owns_below hV hW3
        have HL1 : Hid (Pg.cRun ps ⟨0, 0, []⟩ = Pg.cRun (ps.drop (k + 1)) (Pg.cStep ⟨ah, la, l.reverse⟩ p)) := by show _ = _; rw [HL.out, hdr, Pg.cRun]
        have hpm := Hmo.out p (by have := List.mem_of_getElem? hp; exact this)
        clear HL hdr hp
        obtain ⟨kd, pl, f, le, mo, fa⟩ := p
        simp only at *
        have c0 := hM.c0
        have c4 := hM.c4
        by_cases h1 : kd = 1
        · subst h1
          have HL2 : Hid (Pg.cRun ps ⟨0, 0, []⟩ = Pg.cRun (ps.drop (k + 1)) ⟨Pg.capped (ah + la), 1, l.reverse⟩) := HL1
          clear HL1
          go_wp2_with (first | (with_reducible show wpList _ _ _ ({ dst := _, op := Op.load 146 _, type := _, pos := _, after := _, guard := _ } :: _) _ _; refine wpList_load_mid rfl 146 _ rfl _ _ rfl _ _ hr Try.underlying146 rfl (by rw [partL_len]; exact info_part) ?_) | (with_reducible show wpList _ _ _ ({ dst := _, op := Op.store 146 _ _, type := _, pos := _, after := _, guard := _ } :: _) _ _; refine wpList_store_mid rfl 146 _ _ rfl _ _ _ rfl rfl (by simpa [partL_len] using hNf) (by simpa [partL_len] using info_part) (all_oneCell_toArray (partL_one _ _ _ _ _ _)) ?_))
          refine (capped_any _ _).mono ?_
          rintro e W ⟨rfl, rfl⟩
          go_wp2_with fail
          go_roundw
          case rel => exact ⟨k + 1, _, 1, l, by go_num, rfl, rfl, by omega, hcb.1, hcb.2, by omega, by omega, by omega, Hly.out, hV3, hO3, hB3, HL2⟩
          case measure => simp [intOf]; omega
        have b1 : (kd == 1) = false := by simpa using h1
        by_cases h2 : kd = 2
        · subst h2
          have HL2 : Hid (Pg.cRun ps ⟨0, 0, []⟩ = Pg.cRun (ps.drop (k + 1)) ⟨0, 0, (l ++ [Pg.capped (ah + la)]).reverse⟩) := by show _ = _; rw [HL1.out, List.reverse_append]; rfl
          have hly2 : ∀ y ∈ l ++ [Pg.capped (ah + la)], 0 ≤ y ∧ y ≤ 97 := by
            intro y hy
            rcases List.mem_append.1 hy with h | h
            · exact Hly.out y h
            · simp only [List.mem_singleton] at h; subst h; exact hcb
          have Hly2 : Hid (∀ y ∈ l ++ [Pg.capped (ah + la)], 0 ≤ y ∧ y ≤ 97) := hly2
          clear HL1 hly2
          go_wp2_with (first | (with_reducible show wpList _ _ _ ({ dst := _, op := Op.load 146 _, type := _, pos := _, after := _, guard := _ } :: _) _ _; refine wpList_load_mid rfl 146 _ rfl _ _ rfl _ _ hr Try.underlying146 rfl (by rw [partL_len]; exact info_part) ?_) | (with_reducible show wpList _ _ _ ({ dst := _, op := Op.store 146 _ _, type := _, pos := _, after := _, guard := _ } :: _) _ _; refine wpList_store_mid rfl 146 _ _ rfl _ _ _ rfl rfl (by simpa [partL_len] using hNf) (by simpa [partL_len] using info_part) (all_oneCell_toArray (partL_one _ _ _ _ _ _)) ?_))
          refine (capped_any _ _).mono ?_
          rintro e W ⟨rfl, rfl⟩
          generalize Pg.capped (ah + la) = cc at *
          generalize hWW : (wr.alloc (Obj.cells (partL 0 0 (fun _ => false) 0 0 0).toArray 146)).setCells wr.heap.size 0 (partL 2 pl f le mo fa) = W at *
          clear hWW hr hz hN hNf hM c0 c4 hW3
          have hV4 := owns_below hV3 ((Below.refl _ _).alloc (Nat.le_refl _) (.cells #[.int .i64 cc] 3))
          have hO4 := owns_below hO3 ((Below.refl _ _).alloc (Nat.le_refl _) (.cells #[.int .i64 cc] 3))
          have hB4 := hB3.alloc hB3.size (.cells #[.int .i64 cc] 3)
          have hnew : (W.alloc (.cells #[.int .i64 cc] 3)).cell? ⟨W.heap.size, 0, none⟩ = some (.int .i64 cc) := by rw [World.cell?_alloc_new]; rfl
          go_wp2_with (first | (at_builtin; refine wpList_append_int (by rfl) _ _ (by rfl) w.heap.size u3 l (by rfl) hV4 (by omega) W.heap.size cc (by rfl) hnew hB4.size ?_; intro g2 cap2 w5 hV5 hgrow))
          have hO5 := owns_grown hO4 hV4 hgrow (fun q hq => by cases hq; intro hq2; have := owns_ge hV4 g hq2; omega)
          go_roundw
          case rel => exact ⟨k + 1, 0, 0, l ++ [cc], by go_num, rfl, rfl, by omega, by omega, by omega, by omega, by omega, by simp; omega, Hly2.out, by simpa using hV5, hO5, hB4.grown hgrow hB4.size (owns_ge hV4), HL2⟩
          case measure => simp [intOf]; omega
        have b2 : (kd == 2) = false := by simpa using h2
        by_cases h3 : kd = 3
        · subst h3
          rcases List.eq_nil_or_concat l with hl | ⟨l', x, hl⟩
          · subst hl
            have HL2 : Hid (Pg.cRun ps ⟨0, 0, []⟩ = Pg.cRun (ps.drop (k + 1)) ⟨0, Pg.capped (ah + la), ([] : List Int).reverse⟩) := HL1
            clear HL1
            rcases hV3.2 with ⟨hv3, _⟩ | ⟨g3, cap3, cur3, hv3, _⟩
            · subst hv3
              go_wp2_with (first | (with_reducible show wpList _ _ _ ({ dst := _, op := Op.load 146 _, type := _, pos := _, after := _, guard := _ } :: _) _ _; refine wpList_load_mid rfl 146 _ rfl _ _ rfl _ _ hr Try.underlying146 rfl (by rw [partL_len]; exact info_part) ?_) | (with_reducible show wpList _ _ _ ({ dst := _, op := Op.store 146 _ _, type := _, pos := _, after := _, guard := _ } :: _) _ _; refine wpList_store_mid rfl 146 _ _ rfl _ _ _ rfl rfl (by simpa [partL_len] using hNf) (by simpa [partL_len] using info_part) (all_oneCell_toArray (partL_one _ _ _ _ _ _)) ?_))
              refine (capped_any _ _).mono ?_
              rintro e W ⟨rfl, rfl⟩
              go_wp2_with fail
              go_roundw
              case rel => exact ⟨k + 1, 0, _, [], by go_num, rfl, rfl, by omega, by omega, by omega, hcb.1, hcb.2, by simp, by simp, hV3, hO3, hB3, HL2⟩
              case measure => simp [intOf]; omega
            · subst hv3
              go_wp2_with (first | (with_reducible show wpList _ _ _ ({ dst := _, op := Op.load 146 _, type := _, pos := _, after := _, guard := _ } :: _) _ _; refine wpList_load_mid rfl 146 _ rfl _ _ rfl _ _ hr Try.underlying146 rfl (by rw [partL_len]; exact info_part) ?_) | (with_reducible show wpList _ _ _ ({ dst := _, op := Op.store 146 _ _, type := _, pos := _, after := _, guard := _ } :: _) _ _; refine wpList_store_mid rfl 146 _ _ rfl _ _ _ rfl rfl (by simpa [partL_len] using hNf) (by simpa [partL_len] using info_part) (all_oneCell_toArray (partL_one _ _ _ _ _ _)) ?_))
              refine (capped_any _ _).mono ?_
              rintro e W ⟨rfl, rfl⟩
              go_wp2_with fail
              go_roundw
              case rel => exact ⟨k + 1, 0, _, [], by go_num, rfl, rfl, by omega, by omega, by omega, hcb.1, hcb.2, by simp, by simp, hV3, hO3, hB3, HL2⟩
              case measure => simp [intOf]; omega
          · subst hl
            have HL2 : Hid (Pg.cRun ps ⟨0, 0, []⟩ = Pg.cRun (ps.drop (k + 1)) ⟨x, Pg.capped (ah + la), l'.reverse⟩) := by show _ = _; rw [HL1.out, List.concat_eq_append, List.reverse_append]; rfl
            clear HL1
            have hx := Hly.out x (by simp)
            have Hly2 : Hid (∀ y ∈ l', 0 ≤ y ∧ y ≤ 97) := fun y hy => Hly.out y (by simp [hy])
            have hlen : (l'.concat x).length = l'.length + 1 := by simp
            rw [hlen, List.concat_eq_append] at hV3
            have hll2 : l'.length + 1 ≤ k := by omega
            clear hll hlen Hly
            rcases hV3.2 with ⟨_, h0⟩ | ⟨g3, cap3, cur3, hv3, hge3, hh3, hle3, _⟩
            · omega
            subst hv3
            have hla := owns_last hV3 rfl
            have hpop := owns_popped hV3
            have i1 : (0 : Int) < (l'.length : Int) + 1 := by omega
            have i2 : (0 : Int) ≤ (l'.length : Int) ∧ (l'.length : Int) < (l'.length : Int) + 1 := by omega
            go_wp2_with (first | (with_reducible show wpList _ _ _ ({ dst := _, op := Op.load 146 _, type := _, pos := _, after := _, guard := _ } :: _) _ _; refine wpList_load_mid rfl 146 _ rfl _ _ rfl _ _ hr Try.underlying146 rfl (by rw [partL_len]; exact info_part) ?_) | (with_reducible show wpList _ _ _ ({ dst := _, op := Op.store 146 _ _, type := _, pos := _, after := _, guard := _ } :: _) _ _; refine wpList_store_mid rfl 146 _ _ rfl _ _ _ rfl rfl (by simpa [partL_len] using hNf) (by simpa [partL_len] using info_part) (all_oneCell_toArray (partL_one _ _ _ _ _ _)) ?_))
            refine (capped_any _ _).mono ?_
            rintro e W ⟨rfl, rfl⟩
            go_wp2_with fail
            go_roundw
            case rel => exact ⟨k + 1, x, _, l', by go_num, rfl, rfl, by omega, hx.1, hx.2, hcb.1, hcb.2, by omega, Hly2.out, hpop, hO3, hB3, HL2⟩
            case measure => simp [intOf]; omega
        have b3 : (kd == 3) = false := by simpa using h3
        by_cases h4 : kd = 4
        · subst h4
          have HL2 : Hid (Pg.cRun ps ⟨0, 0, []⟩ = Pg.cRun (ps.drop (k + 1)) ⟨Pg.capped (ah + la), 0, l.reverse⟩) := HL1
          clear HL1
          go_wp2_with (first | (with_reducible show wpList _ _ _ ({ dst := _, op := Op.load 146 _, type := _, pos := _, after := _, guard := _ } :: _) _ _; refine wpList_load_mid rfl 146 _ rfl _ _ rfl _ _ hr Try.underlying146 rfl (by rw [partL_len]; exact info_part) ?_) | (with_reducible show wpList _ _ _ ({ dst := _, op := Op.store 146 _ _, type := _, pos := _, after := _, guard := _ } :: _) _ _; refine wpList_store_mid rfl 146 _ _ rfl _ _ _ rfl rfl (by simpa [partL_len] using hNf) (by simpa [partL_len] using info_part) (all_oneCell_toArray (partL_one _ _ _ _ _ _)) ?_))
          refine (capped_any _ _).mono ?_
          rintro e W ⟨rfl, rfl⟩
          go_wp2_with fail
          go_roundw
          case rel => exact ⟨k + 1, _, 0, l, by go_num, rfl, rfl, by omega, hcb.1, hcb.2, by omega, by omega, by omega, Hly.out, hV3, hO3, hB3, HL2⟩
          case measure => simp [intOf]; omega
        have b4 : (kd == 4) = false := by simpa using h4
        by_cases h8 : kd = 8
        · subst h8
          have hm0 : 0 ≤ la * mo := Int.mul_nonneg hl0 hpm.1
          have hm1 : la * mo ≤ 97 * 9 := Int.mul_le_mul hl1 hpm.2 hpm.1 (by omega)
          have hcm := capped_bd (la * mo) hm0
          have HL2 : Hid (Pg.cRun ps ⟨0, 0, []⟩ = Pg.cRun (ps.drop (k + 1)) ⟨ah, Pg.capped (la * mo), l.reverse⟩) := HL1
          clear HL1
          go_wp2_with (first | (with_reducible show wpList _ _ _ ({ dst := _, op := Op.load 146 _, type := _, pos := _, after := _, guard := _ } :: _) _ _; refine wpList_load_mid rfl 146 _ rfl _ _ rfl _ _ hr Try.underlying146 rfl (by rw [partL_len]; exact info_part) ?_) | (with_reducible show wpList _ _ _ ({ dst := _, op := Op.store 146 _ _, type := _, pos := _, after := _, guard := _ } :: _) _ _; refine wpList_store_mid rfl 146 _ _ rfl _ _ _ rfl rfl (by simpa [partL_len] using hNf) (by simpa [partL_len] using info_part) (all_oneCell_toArray (partL_one _ _ _ _ _ _)) ?_))
          refine (capped_any _ _).mono ?_
          rintro e W ⟨rfl, rfl⟩
          go_wp2_with fail
          go_roundw
          case rel => exact ⟨k + 1, ah, _, l, by go_num, rfl, rfl, by omega, ha0, ha1, hcm.1, hcm.2, by omega, Hly.out, hV3, hO3, hB3, HL2⟩
          case measure => simp [intOf]; omega
        · have b8 : (kd == 8) = false := by simpa using h8
          have HL2 : Hid (Pg.cRun ps ⟨0, 0, []⟩ = Pg.cRun (ps.drop (k + 1)) ⟨ah, la, l.reverse⟩) := by
            show _ = _
            rw [HL1.out]
            simp only [Pg.cStep, if_neg h1, if_neg h2, if_neg h3, if_neg h4, if_neg h8]
          clear HL1 h1 h2 h3 h4 h8
          go_wp2_with (first | (with_reducible show wpList _ _ _ ({ dst := _, op := Op.load 146 _, type := _, pos := _, after := _, guard := _ } :: _) _ _; refine wpList_load_mid rfl 146 _ rfl _ _ rfl _ _ hr Try.underlying146 rfl (by rw [partL_len]; exact info_part) ?_) | (with_reducible show wpList _ _ _ ({ dst := _, op := Op.store 146 _ _, type := _, pos := _, after := _, guard := _ } :: _) _ _; refine wpList_store_mid rfl 146 _ _ rfl _ _ _ rfl rfl (by simpa [partL_len] using hNf) (by simpa [partL_len] using info_part) (all_oneCell_toArray (partL_one _ _ _ _ _ _)) ?_))
          go_roundw
          case rel => exact ⟨k + 1, ah, la, l, by go_num, rfl, rfl, by omega, ha0, ha1, hl0, hl1, by omega, Hly.out, hV3, hO3, hB3, HL2⟩
          case measure => simp [intOf]; omega
      · have hge : ¬ (k : Int) < (ps.length : Int) := by omega
        have HL2 : Hid (Pg.cRun ps ⟨0, 0, []⟩ = ⟨ah, la, l.reverse⟩) := by show _ = _; rw [HL.out, List.drop_eq_nil_of_le (by omega)]; rfl
        clear HL
        go_wp2_with fail
        refine (capped_any _ _).mono ?_
        rintro e W ⟨rfl, rfl⟩
        go_wp2_with fail
        go_ret
        exact ⟨ret_int (by rw [Pg.countPlaces, HL2.out]), hB⟩
end Go.Proofs.Ytoaaklhpmhjhkaa
