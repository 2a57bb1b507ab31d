/-
  Contracts of what looks over the parts: tooDeep, falling, matchless.
-/
import Derived.Test.YtoaaklhpmhjhkaaPartG
namespace Go.Proofs.Ytoaaklhpmhjhkaa
open Go.RowKit
open Pg (Pt)

set_option maxRecDepth 100000 in
set_option maxHeartbeats 1000000 in
theorem matchless_any (v : Value) (ps : List Pt) (base : Nat) (w : World) (hn : ps.length ≤ 100) (hown : w.ownsRow base 146 261 v ps.length (flat ps)) :
    Calls Try.prog 113 #[v] w fun e w' => e = .returned (.int .i64 (Pg.matchless ps)) ∧ Below w.heap.size w w' := by
  rcases hown.2 with ⟨rfl, h0⟩ | ⟨g, cap, cur, rfl, hbg, _⟩
  · have : ps = [] := List.eq_nil_of_length_eq_zero h0
    subst this
    go_enter Try.func113, Try.ntmps113
    go_wp2_with fail
    go_loop [7] (fun x => x = .int .i64 0) (fun _ => 0)
    case atStart => rfl
    case round =>
      subst hrel
      go_wp2_with fail
      go_ret
      exact ⟨rfl, Below.refl _ _⟩
  · go_enter Try.func113, Try.ntmps113
    go_wp2_with fail
    go_loopw [7] (fun x w' => ∃ (k : Nat), x = .int .i64 k ∧ k ≤ ps.length ∧ w'.ownsRow base 146 261 (.slice (some ⟨g, 0, none⟩) ps.length cap) ps.length (flat ps) ∧ Below w.heap.size w w' ∧ Hid (Pg.matchless ps = Pg.matchless (ps.drop k))) (fun x _ => 101 - (intOf x).toNat)
    case atStart => exact ⟨0, rfl, by omega, hown, Below.refl _ _, rfl⟩
    case round =>
      obtain ⟨k, rfl, hk, hO, hB, HL⟩ := hrel
      by_cases hlt : k < ps.length
      · obtain ⟨p, hp⟩ : ∃ p, ps[k]? = some p := ⟨ps[k], List.getElem?_eq_getElem hlt⟩
        have hdr : ps.drop k = p :: ps.drop (k + 1) := by
          rw [List.drop_eq_getElem_cons hlt]; congr 1; rw [List.getElem?_eq_getElem hlt] at hp; exact Option.some.inj hp
        have hr : wr.rangeAt g (k * 261) (partL p.kd p.pl p.f p.le p.mo p.fa) := owns_range hO k p hp
        have hz := zero_part wr
        have hN := PRow.boxed wr 0 0 (fun _ => false) 0 0 0 146
        have hNf := hN.free
        have hM := hN.put p.kd p.pl p.f p.le p.mo p.fa
        have hW3 : Below wr.heap.size wr ((wr.alloc (Obj.cells (partL 0 0 (fun _ => false) 0 0 0).toArray 146)).setCells wr.heap.size 0 (partL p.kd p.pl p.f p.le p.mo p.fa)) := ((Below.refl _ _).alloc (Nat.le_refl _) _).trans (below_setCells wr.heap.size wr.heap.size 0 (Nat.le_refl _) _ _ 0)
        have hO3 := owns_below hO hW3
        have hB3 := hB.trans (hW3.mono hB.size)
        have hlti : (k : Int) < (ps.length : Int) := by omega
        have HL1 : Hid (Pg.matchless ps = if p.kd = 1 ∧ Rf.cntTo p.f 256 = 0 then p.pl else Pg.matchless (ps.drop (k + 1))) := by show _ = _; rw [HL.out, hdr, Pg.matchless]
        clear HL hdr hp
        obtain ⟨kd, pl, f, le, mo, fa⟩ := p
        simp only at *
        have c0 := hM.c0
        by_cases h1 : kd = 1
        · subst h1
          go_wp2_with (first | (with_reducible show wpList _ _ _ ({ dst := _, op := Op.load 146 _, type := _, pos := _, after := _, guard := _ } :: _) _ _; refine wpList_load_mid rfl 146 _ rfl _ _ rfl _ _ hr Try.underlying146 rfl (by rw [partL_len]; exact info_part) ?_) | (with_reducible show wpList _ _ _ ({ dst := _, op := Op.store 146 _ _, type := _, pos := _, after := _, guard := _ } :: _) _ _; refine wpList_store_mid rfl 146 _ _ rfl _ _ _ rfl rfl (by simpa [partL_len] using hNf) (by simpa [partL_len] using info_part) (all_oneCell_toArray (partL_one _ _ _ _ _ _)) ?_) | (with_reducible show wpList _ _ _ ({ dst := _, op := Op.load 144 _, type := _, pos := _, after := _, guard := _ } :: _) _ _; refine wpList_load_mid_g (by kernel_rfl) 144 _ rfl _ _ rfl _ _ hM.set Try.underlying144 rfl (by rw [setL_len]; exact info_set) ?_; simp only [Act.put, List.setIfInBounds_toArray, List.set_cons_zero, List.set_cons_succ]))
          refine (isEmpty_any f _).mono ?_
          rintro e W4 ⟨rfl, hW4⟩
          have hM4 := hM.below hM.lt hW4
          have c1 := hM4.c1
          have hO4 := owns_below hO3 hW4
          have hB4 := hB3.trans (hW4.mono hB3.size)
          by_cases hc : Rf.cntTo f 256 = 0
          · have hcb : (Rf.cntTo f 256 == 0) = true := by simpa using hc
            have HL3 : Hid (Pg.matchless ps = pl) := by show _ = _; rw [HL1.out]; simp [hc]
            rw [hcb]
            clear HL1 hc hcb
            go_wp2_with fail
            go_ret
            exact ⟨ret_int HL3.out.symm, hB4⟩
          · have hcb : (Rf.cntTo f 256 == 0) = false := by simpa using hc
            have HL3 : Hid (Pg.matchless ps = Pg.matchless (ps.drop (k + 1))) := by show _ = _; rw [HL1.out, if_neg (fun h => hc h.2)]
            rw [hcb]
            clear HL1 hc hcb
            go_wp2_with fail
            go_roundw
            case rel => exact ⟨k + 1, by go_num, by omega, hO4, hB4, HL3⟩
            case measure => simp [intOf]; omega
        · have HL3 : Hid (Pg.matchless ps = Pg.matchless (ps.drop (k + 1))) := by show _ = _; rw [HL1.out, if_neg (fun h => h1 h.1)]
          have hb : (kd == 1) = false := by simpa using h1
          clear HL1 h1
          go_wp2_with (first | (with_reducible show wpList _ _ _ ({ dst := _, op := Op.load 146 _, type := _, pos := _, after := _, guard := _ } :: _) _ _; refine wpList_load_mid rfl 146 _ rfl _ _ rfl _ _ hr Try.underlying146 rfl (by rw [partL_len]; exact info_part) ?_) | (with_reducible show wpList _ _ _ ({ dst := _, op := Op.store 146 _ _, type := _, pos := _, after := _, guard := _ } :: _) _ _; refine wpList_store_mid rfl 146 _ _ rfl _ _ _ rfl rfl (by simpa [partL_len] using hNf) (by simpa [partL_len] using info_part) (all_oneCell_toArray (partL_one _ _ _ _ _ _)) ?_))
          go_roundw
          case rel => exact ⟨k + 1, by go_num, by omega, hO3, hB3, HL3⟩
          case measure => simp [intOf]; omega
      · have hge : ¬ (k : Int) < (ps.length : Int) := by omega
        have HL2 : Hid (Pg.matchless ps = -1) := by show _ = _; rw [HL.out, List.drop_eq_nil_of_le (by omega)]; rfl
        clear HL
        go_wp2_with fail
        go_ret
        exact ⟨ret_int HL2.out.symm, hB⟩
end Go.Proofs.Ytoaaklhpmhjhkaa
