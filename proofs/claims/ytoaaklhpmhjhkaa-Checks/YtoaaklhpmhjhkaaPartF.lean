/-
  Contract of the program's readParts.
-/
import Derived.Test.YtoaaklhpmhjhkaaPartD
import Derived.Test.YtoaaklhpmhjhkaaPartE
namespace Go.Proofs.Ytoaaklhpmhjhkaa
open Go.RowKit
open Pg (Pt)

/-- What readParts leaves. -/
def LPost (w : World) (r : Pg.PR) (e : Ending) (w' : World) : Prop :=
  ∃ (v : Value) (ps : List Pt), e = .returned (.tuple #[v, .int .i64 r.n, .bool r.ok]) ∧ Below w.heap.size w w' ∧ (r.ok = true → w'.ownsRow w.heap.size 146 261 v ps.length (flat ps) ∧ ps.map Pt.strip = r.ps ∧ ps.length ≤ 100)

set_option maxRecDepth 100000 in
set_option maxHeartbeats 1000000 in
theorem readParts_any (s : ByteArray) (w : World) (hs : s.size ≤ 40) :
    Calls Try.prog 110 #[.string s] w (LPost w (Pg.readParts (bat s) s.size)) := by
  obtain ⟨R, hR⟩ : ∃ R, R = Pg.readParts (bat s) s.size := ⟨_, rfl⟩
  rw [← hR]
  have HL0 : Hid (R = Pg.partsFrom (bat s) s.size (s.size + 1) 0 0 0 []) := hR
  clear hR
  go_enter Try.func110, Try.ntmps110
  go_wp2_with fail
  go_loopw [5, 6, 7, 8] (fun v b o x w' => ∃ (u k : Nat) (bf op : Int) (ps : List Pt), x = .int .i64 k ∧ b = .int .i64 bf ∧ o = .int .i64 op ∧ s.size < u + k ∧ 1 ≤ u ∧ k ≤ 100 ∧ -(k : Int) ≤ op ∧ op ≤ k ∧ ps.length ≤ k ∧ w'.ownsRow w.heap.size 146 261 v ps.length (flat ps) ∧ Below w.heap.size w w' ∧ Hid (R = Pg.partsFrom (bat s) s.size u bf op k (ps.map Pt.strip))) (fun _ _ _ x _ => 101 - (intOf x).toNat)
  case atStart => exact ⟨s.size + 1, 0, 0, 0, [], rfl, rfl, rfl, by omega, by omega, by omega, by omega, by omega, by simp, ⟨rfl, Or.inl ⟨rfl, rfl⟩⟩, Below.refl _ _, HL0⟩
  case round =>
    clear HL0
    obtain ⟨u, k, bf, op, ps, rfl, rfl, rfl, huk, hu1, hk, ho0, ho1, hpl, hown, hB, HL⟩ := hrel
    by_cases hlt : k < s.size
    · rcases u with _ | u
      · omega
      have hlti : (k : Int) < (s.size : Int) := by omega
      have hbd := Pg.readPart_bd (bat s) s.size k (Pg.kindOf (bat s k)) (bat_bd s) (by omega)
      have hI := HL.out
      rw [Pg.partsFrom, if_pos hlti] at hI
      clear HL
      obtain ⟨t, ht⟩ : ∃ t, t = Pg.readPart (bat s) s.size k (Pg.kindOf (bat s k)) := ⟨_, rfl⟩
      obtain ⟨kd, hkd⟩ : ∃ kd, kd = Pg.kindOf (bat s k) := ⟨_, rfl⟩
      rw [← hkd] at ht hI hbd
      rw [← ht] at hI hbd
      have Ht : Hid (t = Pg.readPart (bat s) s.size k kd) := ht
      have Hkd : Hid (kd = Pg.kindOf (bat s k)) := hkd
      have HI : Hid (R = if Pg.canStand kd bf op then (if t.ok then Pg.partsFrom (bat s) s.size u kd (Pg.opens kd op) t.n (ps.map Pt.strip ++ [⟨kd, k, t.f, 0, t.mo, t.fa⟩]) else ⟨t.n, false, []⟩) else ⟨k, false, []⟩) := hI
      have Hbd : Hid (t.ok = true → (k : Int) < t.n ∧ t.n ≤ (k : Int) + 5 + 40 ∨ t.n ≤ 40 ∧ (k : Int) < t.n) := hbd
      clear hI ht hkd hbd
      go_wp2_with fail
      refine (byteAt_any s (k : Int) _).mono ?_
      rintro e W ⟨rfl, rfl⟩
      go_wp2_with fail
      refine (kindOf_any _ _).mono ?_
      rintro e W ⟨rfl, rfl⟩
      rw [← Hkd.out]
      go_wp2_with fail
      refine (canStand_any kd bf op _).mono ?_
      rintro e W ⟨rfl, rfl⟩
      cases hcs : Pg.canStand kd bf op
      · have HR : Hid (R = ⟨k, false, []⟩) := by show _ = _; rw [HI.out, hcs]; rfl
        clear HI hcs
        go_wp2_with fail
        go_ret3
        rw [HR.out]
        exact ⟨_, [], rfl, hB, fun h => by cases h⟩
      have HI2 : Hid (R = if t.ok then Pg.partsFrom (bat s) s.size u kd (Pg.opens kd op) t.n (ps.map Pt.strip ++ [⟨kd, k, t.f, 0, t.mo, t.fa⟩]) else ⟨t.n, false, []⟩) := by show _ = _; rw [HI.out, hcs]; rfl
      clear HI hcs
      go_wp2_with fail
      refine (readPart_any s k kd _ hs (by omega)).mono ?_
      rw [← Ht.out]
      rintro e W2 ⟨kd', pl', f', le', mo', fa', rfl, hW2, hok⟩
      have Hok : Hid _ := hok
      clear hok
      have hz := zero_part W2
      have hN := PRow.boxed W2 0 0 (fun _ => false) 0 0 0 146
      have hst := hN.store kd' pl' f' le' mo' fa'
      have hM := hN.put kd' pl' f' le' mo' fa'
      have hW3 : Below W2.heap.size W2 ((W2.alloc (Obj.cells (partL 0 0 (fun _ => false) 0 0 0).toArray 146)).setCells W2.heap.size 0 (partL kd' pl' f' le' mo' fa')) := ((Below.refl _ _).alloc (Nat.le_refl _) _).trans (below_setCells W2.heap.size W2.heap.size 0 (Nat.le_refl _) _ _ 0)
      have hBW2 := hB.trans (hW2.mono hB.size)
      have hBW3 := hBW2.trans (hW3.mono hBW2.size)
      cases htok : t.ok
      · have HR : Hid (R = ⟨t.n, false, []⟩) := by show _ = _; rw [HI2.out, htok]; rfl
        clear HI2
        go_wp2_with fail
        go_ret3
        rw [HR.out]
        exact ⟨_, [], rfl, hBW3, fun h => by cases h⟩
      obtain ⟨e1, e2, e3, e4, e5⟩ := Hok.out htok
      have hbd := Hbd.out htok
      have HR : Hid (R = Pg.partsFrom (bat s) s.size u kd (Pg.opens kd op) t.n (ps.map Pt.strip ++ [⟨kd, k, t.f, 0, t.mo, t.fa⟩])) := by show _ = _; rw [HI2.out, htok]; rfl
      clear HI2 Hok Hbd
      subst e1 e2 e3 e4 e5
      obtain ⟨nn, hnn⟩ := Int.eq_ofNat_of_zero_le (show 0 ≤ t.n by omega)
      have Hnn : Hid (t.n = (nn : Int)) := hnn
      have hnk : k < nn ∧ nn ≤ k + 45 := by omega
      clear hnn hbd
      have hs3 : ((W2.alloc (Obj.cells (partL 0 0 (fun _ => false) 0 0 0).toArray 146)).setCells W2.heap.size 0 (partL kd' k t.f le' t.mo t.fa)).heap.size = W2.heap.size + 1 := by rw [size_setCells]; simp
      have hown3 := owns_below (owns_below hown hW2) hW3
      have hown4 := owns_below hown3 ((Below.refl _ _).alloc (Nat.le_refl _) (.cells (Pt.cells ⟨kd', k, t.f, le', t.mo, t.fa⟩).toArray 146))
      have hBW4 := hBW3.alloc hBW3.size (.cells (Pt.cells ⟨kd', k, t.f, le', t.mo, t.fa⟩).toArray 146)
      have hnew := news_alloc _ _ hs3 ⟨kd', k, t.f, le', t.mo, t.fa⟩ 146
      obtain ⟨i, hi, hz0, hz1, hz2⟩ := info_part2
      have Hi : Hid (Try.prog.info? 146 = some i) := hi
      have Hz0 : Hid (i.zero = some (.agg (partL 0 0 (fun _ => false) 0 0 0).toArray)) := hz0
      have Hz1 : Hid (i.size = 261) := hz1
      have Hz2 : Hid (i.bytes = 296) := hz2
      clear hi hz0 hz1 hz2
      have hs4 : (((W2.alloc (Obj.cells (partL 0 0 (fun _ => false) 0 0 0).toArray 146)).setCells W2.heap.size 0 (partL kd' k t.f le' t.mo t.fa)).alloc (.cells (Pt.cells ⟨kd', k, t.f, le', t.mo, t.fa⟩).toArray 146)).heap.size = W2.heap.size + 2 := by
        rw [show ∀ (x : World) (o : Obj), (x.alloc o).heap.size = x.heap.size + 1 from fun x o => by simp, hs3]
      have hzc : (Value.agg (partL 0 0 (fun _ => false) 0 0 0).toArray).cells.size = 261 := by simp [Value.cells, partL_len]
      have hcl : (Pt.cells ⟨kd', k, t.f, le', t.mo, t.fa⟩).length = 1 * 261 := by simp [Pt.cells, partL_len]
      have Hs3 : Hid _ := hs3
      have Hs4 : Hid _ := hs4
      have Hzc : Hid _ := hzc
      have Hcl : Hid _ := hcl
      have Hnew : Hid _ := hnew
      clear hs3 hs4 hzc hcl hnew hown3
      have hNf := hN.free
      have hgo := owns_ge hown4
      have HE : ∀ x, Pg.opens kd' op = x → Hid (R = Pg.partsFrom (bat s) s.size u kd' x (nn : Int) ((ps ++ [(⟨kd', k, t.f, le', t.mo, t.fa⟩ : Pt)]).map Pt.strip)) := by
        intro x hx
        show _ = _
        rw [HR.out, hx, Hnn.out, List.map_append]; rfl
      have hlen : (ps ++ [(⟨kd', k, t.f, le', t.mo, t.fa⟩ : Pt)]).length = ps.length + 1 := by simp
      have Hlen : Hid ((ps ++ [(⟨kd', k, t.f, le', t.mo, t.fa⟩ : Pt)]).length = ps.length + 1) := hlen
      clear hst hlen
      have HF := HE _ (Pg.opens_opn kd' op)
      have hon := Pg.opn_bd kd'
      have HO : Hid (∀ W, Calls Try.prog 137 #[.int .i64 kd'] W fun e w' => e = .returned (.int .i64 (Pg.opn kd')) ∧ w' = W) := fun W => opens_any kd' W
      clear HE HR
      generalize Pg.opn kd' = d at *
      go_wp2_with (first | (with_reducible show wpList _ _ _ ({ dst := _, op := Op.store 146 _ _, type := _, pos := _, after := _, guard := _ } :: _) _ _; refine wpList_store_mid rfl 146 _ _ rfl _ _ _ rfl rfl (by simpa [partL_len] using hNf) (by simpa [partL_len] using info_part) (all_oneCell_toArray (partL_one _ _ _ _ _ _)) ?_) | (with_reducible show wpList _ _ _ ({ dst := _, op := Op.load 146 _, type := _, pos := _, after := _, guard := _ } :: _) _ _; refine wpList_load_mid rfl 146 _ rfl _ _ rfl _ _ hM.at_ Try.underlying146 rfl (by rw [partL_len]; exact info_part) ?_) | (with_reducible show wpList _ _ _ ({ dst := _, op := Op.buildSlice 115 _ _, type := _, pos := _, after := _, guard := _ } :: _) _ _; refine wpList_build1 rfl _ rfl ⟨kd', k, t.f, le', t.mo, t.fa⟩ rfl (W2.heap.size + 1) Hs3.out ?_) | (at_builtin; refine wpList_append_part (by rfl) _ _ (by rfl) w.heap.size u5 ps (by rfl) hown4 (by omega) (W2.heap.size + 1) ⟨kd', k, t.f, le', t.mo, t.fa⟩ (by rfl) Hnew.out hBW4.size ?_; intro g cap w5 hown5 hgrow))
      refine (HO.out _).mono ?_
      rintro e w' ⟨rfl, rfl⟩
      go_wp2_with fail
      rw [Hnn.out]
      go_roundw
      case rel => exact ⟨u, nn, kd', op + d, ps ++ [⟨kd', k, t.f, le', t.mo, t.fa⟩], rfl, rfl, rfl, by omega, by omega, by omega, by omega, by omega, by rw [Hlen.out]; omega, by rw [Hlen.out]; exact hown5, hBW4.grown hgrow hBW4.size hgo, HF⟩
      case measure => simp [intOf]; omega
    · have hge : ¬ (k : Int) < (s.size : Int) := by omega
      rcases u with _ | u
      · omega
      by_cases ho : op = 0
      · have HR : Hid (R = ⟨k, true, ps.map Pt.strip⟩) := by show _ = _; rw [HL.out, Pg.partsFrom, if_neg hge, ho]; rfl
        have hob : (op == 0) = true := by simpa using ho
        clear HL ho
        go_wp2_with fail
        go_ret3
        rw [HR.out]
        exact ⟨u5, ps, rfl, hB, fun _ => ⟨hown, rfl, by omega⟩⟩
      · have hob : (op == 0) = false := by simpa using ho
        have HR : Hid (R = ⟨k, false, ps.map Pt.strip⟩) := by show _ = _; rw [HL.out, Pg.partsFrom, if_neg hge, hob]
        clear HL ho
        go_wp2_with fail
        go_ret3
        rw [HR.out]
        exact ⟨u5, ps, rfl, hB, fun h => by cases h⟩
end Go.Proofs.Ytoaaklhpmhjhkaa
