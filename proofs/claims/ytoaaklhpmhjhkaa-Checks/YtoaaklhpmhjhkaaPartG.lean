/-
  Contracts of what looks over the parts: tooDeep, falling, matchless.
-/
import Derived.Test.YtoaaklhpmhjhkaaPartF
namespace Go.Proofs.Ytoaaklhpmhjhkaa
open Go.RowKit
open Pg (Pt)

theorem wpList_load_mid_g {P : Program} {ops : Array Oper} {rest : List Oper} {op : Oper} {a : Act} {w : World} {Q : Exit → Act → World → Prop} (hw : Region.wanted op (yielded ops a.tmps) = true) (ty : TypeId) (x : Operand) (ho : op.op = .load ty x)
    (b o : Nat) (hx : a.eval x = .pointer (some ⟨b, o, none⟩)) (cs : List Value) (d : TypeDesc) (hc : w.rangeAt b o cs)
    (hu : P.underlying ty = some d) (hd : d.isRow = true) (hi : (P.info? ty).map (·.size) = some cs.length)
    (h : wpList P ops Q rest (a.put op.dst (.agg cs.toArray)) w) : wpList P ops Q (op :: rest) a w :=
  wpList_step fun K hK => by rw [if_pos hw]; exact wp_load_mid ty x ho b o hx cs d hc hu hd hi (hK _ _ h)

set_option maxRecDepth 100000 in
set_option maxHeartbeats 1000000 in
theorem tooDeep_any (v : Value) (ps : List Pt) (base : Nat) (w : World) (hn : ps.length ≤ 100) (hown : w.ownsRow base 146 261 v ps.length (flat ps)) :
    Calls Try.prog 111 #[v] w fun e w' => e = .returned (.int .i64 (Pg.tooDeep ps 0)) ∧ Below w.heap.size w w' := by
  rcases hown.2 with ⟨rfl, h0⟩ | ⟨g, cap, cur, rfl, hbg, _⟩
  · have : ps = [] := List.eq_nil_of_length_eq_zero h0
    subst this
    go_enter Try.func111, Try.ntmps111
    go_wp2_with fail
    go_loop [8] (fun x => x = .int .i64 0) (fun _ => 0)
    case atStart => rfl
    case round =>
      subst hrel
      go_wp2_with fail
      go_ret
      exact ⟨rfl, Below.refl _ _⟩
  · go_enter Try.func111, Try.ntmps111
    go_wp2_with fail
    go_loopw [3, 8] (fun o x w' => ∃ (k : Nat) (op : Int), x = .int .i64 k ∧ o = .int .i64 op ∧ k ≤ ps.length ∧ -(k : Int) ≤ op ∧ op ≤ k ∧ w'.ownsRow base 146 261 (.slice (some ⟨g, 0, none⟩) ps.length cap) ps.length (flat ps) ∧ Below w.heap.size w w' ∧ Hid (Pg.tooDeep ps 0 = Pg.tooDeep (ps.drop k) op)) (fun _ x _ => 101 - (intOf x).toNat)
    case atStart => exact ⟨0, 0, rfl, rfl, by omega, by omega, by omega, hown, Below.refl _ _, rfl⟩
    case round =>
      obtain ⟨k, op, rfl, rfl, hk, ho0, ho1, hO, hB, HL⟩ := hrel
      by_cases hlt : k < ps.length
      · obtain ⟨p, hp⟩ : ∃ p, ps[k]? = some p := ⟨ps[k], List.getElem?_eq_getElem hlt⟩
        have hdr : ps.drop k = p :: ps.drop (k + 1) := by
          rw [List.drop_eq_getElem_cons hlt]; congr 1; rw [List.getElem?_eq_getElem hlt] at hp; exact Option.some.inj hp
        have hr : wr.rangeAt g (k * 261) (partL p.kd p.pl p.f p.le p.mo p.fa) := owns_range hO k p hp
        have hz := zero_part wr
        have hN := PRow.boxed wr 0 0 (fun _ => false) 0 0 0 146
        have hNf := hN.free
        have hM := hN.put p.kd p.pl p.f p.le p.mo p.fa
        have hW3 : Below wr.heap.size wr ((wr.alloc (Obj.cells (partL 0 0 (fun _ => false) 0 0 0).toArray 146)).setCells wr.heap.size 0 (partL p.kd p.pl p.f p.le p.mo p.fa)) := ((Below.refl _ _).alloc (Nat.le_refl _) _).trans (below_setCells wr.heap.size wr.heap.size 0 (Nat.le_refl _) _ _ 0)
        obtain ⟨W3, hW3e⟩ : ∃ W, W = ((wr.alloc (Obj.cells (partL 0 0 (fun _ => false) 0 0 0).toArray 146)).setCells wr.heap.size 0 (partL p.kd p.pl p.f p.le p.mo p.fa)) := ⟨_, rfl⟩
        rw [← hW3e] at hM hW3
        have HW3 : Hid (W3 = ((wr.alloc (Obj.cells (partL 0 0 (fun _ => false) 0 0 0).toArray 146)).setCells wr.heap.size 0 (partL p.kd p.pl p.f p.le p.mo p.fa))) := hW3e
        clear hW3e
        have hO3 := owns_below hO hW3
        have hB3 := hB.trans (hW3.mono hB.size)
        have hlti : (k : Int) < (ps.length : Int) := by omega
        have HL1 : Hid (Pg.tooDeep ps 0 = if 6 < Pg.opens p.kd op then p.pl else Pg.tooDeep (ps.drop (k + 1)) (Pg.opens p.kd op)) := by show _ = _; rw [HL.out, hdr, Pg.tooDeep]
        clear HL hdr hp
        obtain ⟨kd, pl, f, le, mo, fa⟩ := p
        simp only at *
        have c0 := hM.c0
        have c1 := hM.c1
        have hon := Pg.opn_bd kd
        have HO : Hid (∀ W, Calls Try.prog 137 #[.int .i64 kd] W fun e w' => e = .returned (.int .i64 (Pg.opn kd)) ∧ w' = W) := fun W => opens_any kd W
        rw [Pg.opens_opn] at HL1
        generalize Pg.opn kd = d at *
        by_cases h6 : 6 < op + d
        · have HL3 : Hid (Pg.tooDeep ps 0 = pl) := by show _ = _; rw [HL1.out, if_pos h6]
          clear HL1
          go_wp2_with (first | (with_reducible show wpList _ _ _ ({ dst := _, op := Op.load 146 _, type := _, pos := _, after := _, guard := _ } :: _) _ _; refine wpList_load_mid rfl 146 _ rfl _ _ rfl _ _ hr Try.underlying146 rfl (by rw [partL_len]; exact info_part) ?_) | (with_reducible show wpList _ _ _ ({ dst := _, op := Op.store 146 _ _, type := _, pos := _, after := _, guard := _ } :: _) _ _; refine wpList_store_mid rfl 146 _ _ rfl _ _ _ rfl rfl (by simpa [partL_len] using hNf) (by simpa [partL_len] using info_part) (all_oneCell_toArray (partL_one _ _ _ _ _ _)) ?_; rw [List.toList_toArray, ← HW3.out]))
          refine (HO.out _).mono ?_
          rintro e w' ⟨rfl, rfl⟩
          go_wp2_with fail
          go_ret
          exact ⟨ret_int HL3.out.symm, hB3⟩
        · have HL3 : Hid (Pg.tooDeep ps 0 = Pg.tooDeep (ps.drop (k + 1)) (op + d)) := by show _ = _; rw [HL1.out, if_neg h6]
          clear HL1
          go_wp2_with (first | (with_reducible show wpList _ _ _ ({ dst := _, op := Op.load 146 _, type := _, pos := _, after := _, guard := _ } :: _) _ _; refine wpList_load_mid rfl 146 _ rfl _ _ rfl _ _ hr Try.underlying146 rfl (by rw [partL_len]; exact info_part) ?_) | (with_reducible show wpList _ _ _ ({ dst := _, op := Op.store 146 _ _, type := _, pos := _, after := _, guard := _ } :: _) _ _; refine wpList_store_mid rfl 146 _ _ rfl _ _ _ rfl rfl (by simpa [partL_len] using hNf) (by simpa [partL_len] using info_part) (all_oneCell_toArray (partL_one _ _ _ _ _ _)) ?_; rw [List.toList_toArray, ← HW3.out]))
          refine (HO.out _).mono ?_
          rintro e w' ⟨rfl, rfl⟩
          go_wp2_with fail
          go_roundw
          case rel => exact ⟨k + 1, op + d, by go_num, rfl, by omega, by omega, by omega, hO3, hB3, HL3⟩
          case measure => simp [intOf]; omega
      · have hge : ¬ (k : Int) < (ps.length : Int) := by omega
        have HL2 : Hid (Pg.tooDeep ps 0 = -1) := by show _ = _; rw [HL.out, List.drop_eq_nil_of_le (by omega)]; rfl
        clear HL
        go_wp2_with fail
        go_ret
        exact ⟨ret_int HL2.out.symm, hB⟩

end Go.Proofs.Ytoaaklhpmhjhkaa
