/-
  The row of the law Packs, out of its walk.
-/
import Derived.Test.YtoaaklhpmhjhkaaRows
import Derived.Test.YtoaaklhpmhjhkaaPkS
import Derived.ProofKit
import Derived.OpenShut
import Derived.ChangeOld
import Derived.ChangeSame
import Derived.ChangeSlices
import Derived.SizedLaws
namespace Go.Proofs.Ytoaaklhpmhjhkaa
open Go.ChangeShapes Go.WideShapes Go.ChangeAt Go.RowKit

theorem Try.own : ownKnob Try.prog.godebug = none := by kernel_rfl
theorem Try.laidOut : laidOutB Try.prog = true := by kernel_rfl
theorem Try.bytesInt : Try.prog.bytesOf 3 = 8 := by kernel_rfl

theorem list4 {α : Type} (l : List α) (h : l.length = 4) : ∃ a b c d, l = [a, b, c, d] := by
  match l, h with
  | [a, b, c, d], _ => exact ⟨a, b, c, d, rfl⟩
set_option maxRecDepth 100000 in
theorem field_int {H : Type} {enc : TypeId × Value → H} {W : World} {fuel : Nat} {e : Value} {y : DataW H × List MemPlace} (h : DataW.trod enc Try.prog W 0 (fun _ => true) true fuel 3 [e] = some y) : ∃ z, e = .int .i64 z := by
  cases fuel with
  | zero => simp [DataW.trod] at h
  | succ n =>
    unfold DataW.trod at h
    simp only [Try.underlying3] at h
    split at h <;> simp_all
theorem field_ints {H : Type} {enc : TypeId × Value → H} {W : World} {fuel : Nat} {e : Value} {y : DataW H × List MemPlace} (h : DataW.trod enc Try.prog W 0 (fun _ => true) true fuel 24 [e] = some y) :
    ∃ (ad : Option Addr) (len cap : Nat) (f : Nat → Int), e = .slice ad len cap ∧ IL ad f len W ∧ (len = 0 ∨ ∃ el sp, y.1 = .slice el sp ∧ len ≤ el.length + sp.length) := by
  rcases open_ints Try.underlying24 Try.underlying3 (by kernel_rfl) h with ⟨hcs, _⟩ | ⟨x, l, c, zs, hcs, _, hl, hm, hz, hx, hcell, hws⟩
  · simp at hcs
    exact ⟨none, 0, 0, fun _ => 0, hcs, fun i hi => by omega, Or.inl rfl⟩
  · simp at hcs
    have hz' : zs.length = c := by simpa using hz
    refine ⟨some x, l, c, fun i => zs.getD i 0, hcs, fun i hi => ?_, Or.inr ⟨_, _, congrArg Prod.fst hx, ?_⟩⟩
    · obtain ⟨b, off, spot⟩ := x
      have hc := hcell i (by omega)
      have hspot : spot = none := by
        have h0 := hcell 0 (by omega)
        simpa [Addr.add] using World.cell?_spot h0
      subst hspot
      refine ⟨b, off, rfl, ?_⟩
      rw [Addr.add_lit] at hc; exact hc
    · simp [lits]; omega
theorem part_size {H : Type} {ds : List (DataW H)} {ts : List TypeId} (h : (DataW.weightsEach Try.prog ts ds).all (· ≤ reachBytes) = true) {j : Nat} (ht : ts[j]? = some 24) {d : DataW H} (hd : ds[j]? = some d) {len : Nat} (hl : len = 0 ∨ ∃ el sp, d = .slice el sp ∧ len ≤ el.length + sp.length) : len + 3 ≤ 17592186044416 := by
  rcases hl with rfl | ⟨el, sp, rfl, hle⟩
  · omega
  · have := sized_slice h ht hd Try.underlying24
    rw [Try.bytesInt] at this
    unfold reachBytes at this
    omega

set_option maxRecDepth 100000 in
theorem packs_lifted (os : Os) (started : os.Started) (H : Type) (enc : TypeId × Value → H) :
    ReturnsInHanded {} Try.checked os 8 .any (Rows.packsSpec.pre6 enc Try.prog Try.f8 Rows.packsRow.domain false) (Rows.packsSpec.post enc Try.prog Try.f8 false true false false) := by
  refine returnsInHanded_of_change_sized (C := Try.checked) Try.own started (by kernel_rfl) Try.func8
    (ChangeSpec.witness6 (enc := enc) (C := Try.checked) false ⟨#[], #[.agg #[.int .i64 0, .slice none 0 0, .slice none 0 0, .slice none 0 0]], []⟩ 8 (by kernel_rfl) (by kernel_rfl) (by kernel_rfl) (by kernel_rfl)) ?_
  intro W base args ds gs before hval0 hW hcnd0 hsz0 hholds
  have hval : ∀ (j : Nat) t v, Try.f8.params[j]? = some t → args[j]? = some v → Value.okWide Try.prog W .any base t v := hval0
  have hsz : (DataW.weightsEach Try.prog (Try.f8.params.toList ++ Rows.packsSpec.plain.varTypes Try.prog) (ds ++ gs)).all (· ≤ reachBytes) = true := hsz0
  have hW' := hW
  obtain ⟨p, q, hA0, hV, rfl, hfz, hnd⟩ := hW
  have hA : DataW.TrodAll enc Try.prog W 0 (fun _ => true) true Try.f8.params.toList args.toList ds p := hA0
  rw [Try.params8] at hA hval hsz
  obtain ⟨v0, d0, rfl, rfl, h0⟩ := trodAll_one hA
  obtain ⟨rfl, rfl⟩ := trodVars_none hV
  obtain ⟨cs, rfl, hcs⟩ := okWide_struct Try.underlying49 (hval 0 49 v0 rfl rfl)
  have k0 := h0
  have lt0 : ∀ x ∈ p, x.block < W.heap.size := by obtain ⟨m, hm⟩ := k0; exact DataW.trod_lt m _ _ _ hm
  have hwalk : Calls Try.prog 8 #[.agg cs] W fun e w' => e = .returned (.bool true) ∧ Below W.heap.size W w' := by
    obtain ⟨fuel, hf⟩ := h0
    obtain ⟨xs, n, _, hx, hl, hlen, hfl⟩ := DataW.trod_struct Try.underlying49 hf
    have h7 : Try.prog.cellsOf 49 = 4 := by kernel_rfl
    rw [h7] at hcs
    have k3 : Try.prog.cellsOf 3 = 1 := by kernel_rfl
    have k24 : Try.prog.cellsOf 24 = 1 := by kernel_rfl
    obtain ⟨l⟩ := cs
    have hx1 : d0 = .agg (xs.map (·.1)) := congrArg Prod.fst hx
    have hsz2 : (DataW.weightsEach Try.prog [3, 24, 24, 24] (xs.map (·.1))).all (· ≤ reachBytes) = true := by
      rw [List.all_eq_true] at hsz ⊢
      intro m hm
      refine hsz m (DataW.weights_mem_each (j := 0) (t := 49) (d := d0) rfl rfl m ?_)
      rw [hx1]
      simp only [DataW.weights, Try.underlying49]
      exact hm
    have g0 : DataW.trod enc Try.prog W 0 (fun _ => true) true n 3 ((l.drop 0).take 1) = xs[0]? := by rw [← k3]; exact hfl 0 _ rfl
    have g1 : DataW.trod enc Try.prog W 0 (fun _ => true) true n 24 ((l.drop 1).take 1) = xs[1]? := by rw [← k24]; exact hfl 1 _ rfl
    have g2 : DataW.trod enc Try.prog W 0 (fun _ => true) true n 24 ((l.drop 2).take 1) = xs[2]? := by rw [← k24]; exact hfl 2 _ rfl
    have g3 : DataW.trod enc Try.prog W 0 (fun _ => true) true n 24 ((l.drop 3).take 1) = xs[3]? := by rw [← k24]; exact hfl 3 _ rfl
    have hcs' : l.length = 4 := hcs
    have hlen' : xs.length = 4 := hlen
    obtain ⟨e0, e1, e2, e3, rfl⟩ := list4 l hcs'
    obtain ⟨y0, y1, y2, y3, rfl⟩ := list4 xs hlen'
    obtain ⟨z, rfl⟩ := field_int (show DataW.trod enc Try.prog W 0 (fun _ => true) true n 3 [e0] = some y0 from g0)
    obtain ⟨a1, n1, c1, f1, rfl, i1, s1⟩ := field_ints (show DataW.trod enc Try.prog W 0 (fun _ => true) true n 24 [e1] = some y1 from g1)
    obtain ⟨a2, n2, c2, f2, rfl, i2, s2⟩ := field_ints (show DataW.trod enc Try.prog W 0 (fun _ => true) true n 24 [e2] = some y2 from g2)
    obtain ⟨a3, n3, c3, f3, rfl, i3, s3⟩ := field_ints (show DataW.trod enc Try.prog W 0 (fun _ => true) true n 24 [e3] = some y3 from g3)
    refine Packs_any ⟨z, f1, n1, f2, n2, f3, n3⟩ ⟨a1, c1, a2, c2, a3, c3⟩ W ⟨?_, ?_, ?_⟩ ⟨i1, i2, i3⟩
    · exact part_size hsz2 (j := 1) rfl (d := y1.1) rfl s1
    · exact part_size hsz2 (j := 2) rfl (d := y2.1) rfl s2
    · exact part_size hsz2 (j := 3) rfl (d := y3.1) rfl s3
  clear hA0 hval0
  refine hwalk.mono fun e W' ⟨he, bel⟩ => ?_
  subst he
  exact ⟨_, rfl, _, _, _, [], _, [], hW', trodAll_mk1 (shut_bool Try.underlying4 _), trodAll_mk1 (Below.trod Try.laidOut (by kernel_rfl) (of_decide_eq_true (by kernel_rfl)) k0 bel lt0), rfl, bel.frame _, fun h => by cases h⟩

theorem packs_done : Rows.PacksSaid :=
  OpenClaim.holds_of_wide 8 Try.f8 rfl rfl rfl rfl rfl rfl rfl ⟨rfl, rfl, rfl, rfl, rfl⟩ rfl rfl rfl rfl rfl (by kernel_rfl) Try.func8 (by kernel_rfl)
    (of_decide_eq_true (by kernel_rfl)) (by unfold Func.isWrapper; first | (rw [if_pos (by decide +kernel)]; kernel_rfl) | (rw [if_neg (by decide +kernel)]; exact ⟨rfl, rfl⟩))
    (fun os started H enc _ => packs_lifted os started H enc)
#print axioms packs_done
end Go.Proofs.Ytoaaklhpmhjhkaa
