/-
  Contracts of what looks over the parts: tooDeep, falling, matchless.
-/
import Derived.Test.YtoaaklhpmhjhkaaPartG
namespace Go.Proofs.Ytoaaklhpmhjhkaa
open Go.RowKit
open Pg (Pt)

set_option maxRecDepth 100000 in
set_option maxHeartbeats 1000000 in
theorem falling_any (v : Value) (ps : List Pt) (base : Nat) (w : World) (hn : ps.length ≤ 100) (hown : w.ownsRow base 146 261 v ps.length (flat ps)) :
    Calls Try.prog 112 #[v] w fun e w' => e = .returned (.int .i64 (Pg.falling ps)) ∧ Below w.heap.size w w' := by
  rcases hown.2 with ⟨rfl, h0⟩ | ⟨g, cap, cur, rfl, hbg, _⟩
  · have : ps = [] := List.eq_nil_of_length_eq_zero h0
    subst this
    go_enter Try.func112, Try.ntmps112
    go_wp2_with fail
    go_loop [7] (fun x => x = .int .i64 0) (fun _ => 0)
    case atStart => rfl
    case round =>
      subst hrel
      go_wp2_with fail
      go_ret
      exact ⟨rfl, Below.refl _ _⟩
  · go_enter Try.func112, Try.ntmps112
    go_wp2_with fail
    go_loopw [7] (fun x w' => ∃ (k : Nat), x = .int .i64 k ∧ k ≤ ps.length ∧ w'.ownsRow base 146 261 (.slice (some ⟨g, 0, none⟩) ps.length cap) ps.length (flat ps) ∧ Below w.heap.size w w' ∧ Hid (Pg.falling ps = Pg.falling (ps.drop k))) (fun x _ => 101 - (intOf x).toNat)
    case atStart => exact ⟨0, rfl, by omega, hown, Below.refl _ _, rfl⟩
    case round =>
      obtain ⟨k, rfl, hk, hO, hB, HL⟩ := hrel
      by_cases hlt : k < ps.length
      · obtain ⟨p, hp⟩ : ∃ p, ps[k]? = some p := ⟨ps[k], List.getElem?_eq_getElem hlt⟩
        have hdr : ps.drop k = p :: ps.drop (k + 1) := by
          rw [List.drop_eq_getElem_cons hlt]; congr 1; rw [List.getElem?_eq_getElem hlt] at hp; exact Option.some.inj hp
        have hr : wr.rangeAt g (k * 261) (partL p.kd p.pl p.f p.le p.mo p.fa) := owns_range hO k p hp
        have hz := zero_part wr
        have hN := PRow.boxed wr 0 0 (fun _ => false) 0 0 0 146
        have hNf := hN.free
        have hM := hN.put p.kd p.pl p.f p.le p.mo p.fa
        have hW3 : Below wr.heap.size wr ((wr.alloc (Obj.cells (partL 0 0 (fun _ => false) 0 0 0).toArray 146)).setCells wr.heap.size 0 (partL p.kd p.pl p.f p.le p.mo p.fa)) := ((Below.refl _ _).alloc (Nat.le_refl _) _).trans (below_setCells wr.heap.size wr.heap.size 0 (Nat.le_refl _) _ _ 0)
        have hO3 := owns_below hO hW3
        have hB3 := hB.trans (hW3.mono hB.size)
        have hlti : (k : Int) < (ps.length : Int) := by omega
        have HL1 : Hid (Pg.falling ps = if p.fa = -1 then Pg.falling (ps.drop (k + 1)) else p.fa) := by show _ = _; rw [HL.out, hdr, Pg.falling]
        clear HL hdr hp
        obtain ⟨kd, pl, f, le, mo, fa⟩ := p
        simp only at *
        have c5 := hM.c5
        by_cases h6 : fa = -1
        · subst h6
          have HL3 : Hid (Pg.falling ps = Pg.falling (ps.drop (k + 1))) := by show _ = _; rw [HL1.out, if_pos rfl]
          clear HL1
          go_wp2_with (first | (with_reducible show wpList _ _ _ ({ dst := _, op := Op.load 146 _, type := _, pos := _, after := _, guard := _ } :: _) _ _; refine wpList_load_mid rfl 146 _ rfl _ _ rfl _ _ hr Try.underlying146 rfl (by rw [partL_len]; exact info_part) ?_) | (with_reducible show wpList _ _ _ ({ dst := _, op := Op.store 146 _ _, type := _, pos := _, after := _, guard := _ } :: _) _ _; refine wpList_store_mid rfl 146 _ _ rfl _ _ _ rfl rfl (by simpa [partL_len] using hNf) (by simpa [partL_len] using info_part) (all_oneCell_toArray (partL_one _ _ _ _ _ _)) ?_))
          go_roundw
          case rel => exact ⟨k + 1, by go_num, by omega, hO3, hB3, HL3⟩
          case measure => simp [intOf]; omega
        · have HL3 : Hid (Pg.falling ps = fa) := by show _ = _; rw [HL1.out, if_neg h6]
          have hb : (fa == -1) = false := by simpa using h6
          have hb2 : (fa != -1) = true := by simpa using h6
          clear HL1 h6
          go_wp2_with (first | (with_reducible show wpList _ _ _ ({ dst := _, op := Op.load 146 _, type := _, pos := _, after := _, guard := _ } :: _) _ _; refine wpList_load_mid rfl 146 _ rfl _ _ rfl _ _ hr Try.underlying146 rfl (by rw [partL_len]; exact info_part) ?_) | (with_reducible show wpList _ _ _ ({ dst := _, op := Op.store 146 _ _, type := _, pos := _, after := _, guard := _ } :: _) _ _; refine wpList_store_mid rfl 146 _ _ rfl _ _ _ rfl rfl (by simpa [partL_len] using hNf) (by simpa [partL_len] using info_part) (all_oneCell_toArray (partL_one _ _ _ _ _ _)) ?_))
          go_ret
          exact ⟨ret_int HL3.out.symm, hB3⟩
      · have hge : ¬ (k : Int) < (ps.length : Int) := by omega
        have HL2 : Hid (Pg.falling ps = -1) := by show _ = _; rw [HL.out, List.drop_eq_nil_of_le (by omega)]; rfl
        clear HL
        go_wp2_with fail
        go_ret
        exact ⟨ret_int HL2.out.symm, hB⟩

end Go.Proofs.Ytoaaklhpmhjhkaa
