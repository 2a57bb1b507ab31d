/-
  The law's loaded.
-/
import Derived.Test.YtoaaklhpmhjhkaaLdN
import Derived.Deep.RegionHeld3
namespace Go.Proofs.Ytoaaklhpmhjhkaa
open Go.RowKit

theorem DecIs.uniq {s : ByteArray} {c d : Int} (h : DecIs s c) (k : DecIs s d) : c = d := by
  rcases h with ⟨a, rfl⟩ | ⟨a, b, rfl⟩ | ⟨a, b, e, rfl⟩ | ⟨a, b, e, f, rfl⟩ <;> rcases k with ⟨a', rfl⟩ | ⟨a', b', rfl⟩ | ⟨a', b', e', rfl⟩ | ⟨a', b', e', f', rfl⟩ <;> simp_all
theorem DecIs.bad {s : ByteArray} {c : Int} (h : DecIs s c) : ¬ Good s := fun ⟨p, q, r, t⟩ => by
  rcases h with ⟨a, rfl⟩ | ⟨a, b, rfl⟩ | ⟨a, b, e, rfl⟩ | ⟨a, b, e, f, rfl⟩ <;> simp_all
theorem eResults_tct {fn : Func} {p u x : Tmp} {ty : TypeId} {P : Program} {w : World} {ad : Addr} {v b c : Value} {tmps : Array Value} (h : fn.results = #[.tmp x, .cell p ty, .tmp u]) (hc : tmps.getD x undef = c) (ht : tmps.getD p undef = .pointer (some ad)) (hl : (loadVar ty ad).run P w = .ok v w) (hb : tmps.getD u undef = b) :
    (results fn tmps).run P w = .ok (.tuple #[c, v, b]) w := by
  have h0 : (results fn tmps).run P w = ((asAddr (tmps.getD p undef)).run P w).andThen fun a w₁ => ((loadVar ty a).run P w₁).andThen fun v w₂ => .ok (.tuple #[tmps.getD x undef, v, tmps.getD u undef]) w₂ := by
    simp only [results, h]
    simp [Sem.run_bind, Result.andThen]
  rw [h0, ht]; subst hb; subst hc; simp [asAddr, hl]
/-- What loaded leaves. -/
def LdPost (s : ByteArray) (w : World) (e : Ending) (w' : World) : Prop :=
  Below w.heap.size w w' ∧ ((¬ Good s ∧ e = .returned (.tuple #[.pointer none, .agg zeroT, .bool true])) ∨
    (Good s ∧ ∃ (b : Nat) (A B : TbA), e = .returned (.tuple #[.pointer (some ⟨b, 0, none⟩), .agg (B.cells (fileT s)), .bool true]) ∧ w.heap.size ≤ b ∧ TbAt b (fileT s) A w' ∧ TbIn (fileT s) A w' ∧ TbIn (fileT s) B w'))

set_option maxRecDepth 100000 in
set_option maxHeartbeats 4000000 in
theorem loaded_any (s : ByteArray) (w : World) (hs : s.size ≤ 140737488355328) : Calls Try.prog 13 #[.string s] w (LdPost s w) := by
  have hz := zero_tables
  obtain ⟨W0, hW0⟩ : ∃ W, W = w.alloc (.cells #[.int .i64 0, .slice none 0 0, .slice none 0 0, .slice none 0 0, .slice none 0 0, .slice none 0 0, .slice none 0 0] 26) := ⟨_, rfl⟩
  have hT0 : W0.there w.heap.size 0 7 := by rw [hW0]; exact zeroT_there w _
  have hB0 : Below w.heap.size w W0 := by rw [hW0]; exact bel_box _ _
  have hS0 : w.heap.size < W0.heap.size := by rw [hW0]; simp
  have HL : Hid (Calls Try.prog 42 #[.string s] W0 (LoadPost s W0)) := load_any s W0 hs
  have HR : Hid (∀ W, Calls Try.prog 43 #[.string s] W (DecPost s W)) := fun W => refLoad_any s W hs
  go_enter Try.func13, Try.ntmps13
  go_wp2_with fail
  rw [← hW0]
  clear hW0
  refine HL.out.mono ?_
  rintro e w1 ⟨hW1, ⟨c, hc, rfl⟩ | ⟨hg, b, A, rfl, hb, hAt, hIn⟩⟩
  all_goals
    have hT1 := there_below hT0 (by omega) hW1
    have hB1 := hB0.trans (hW1.mono (Nat.le_of_lt hS0))
    have hS1 : w.heap.size < w1.heap.size := Nat.lt_of_lt_of_le hS0 hW1.size
    clear HL hT0 hB0 hW1
  · have HC : Hid (DecIs s c) := hc
    clear hc
    go_wp2_with fail
    refine (HR.out _).mono ?_
    rintro e w2 ⟨hW2, ⟨d, hd, rfl⟩ | ⟨hg, _⟩⟩
    case inr => exact absurd hg HC.out.bad
    have hdc := hd.uniq HC.out
    subst hdc
    obtain ⟨n1, n2⟩ := hd.ne
    have e1 : (d == d) = true := by simp
    have HN : Hid (¬ Good s) := HC.out.bad
    have hT2 := there_below hT1 (by omega) hW2
    have hB2 := hB1.trans (hW2.mono hB1.size)
    have hS2 : w.heap.size < w2.heap.size := Nat.lt_of_lt_of_le hS1 hW2.size
    clear hT1 hB1 hW2 hd HC HR
    unfold zeroT
    go_wp2_with fail
    obtain ⟨V, hV⟩ : ∃ V, V = w2.alloc (.cells #[.int .i64 0, .slice none 0 0, .slice none 0 0, .slice none 0 0, .slice none 0 0, .slice none 0 0, .slice none 0 0] 26) := ⟨_, rfl⟩
    have hTr : V.there w.heap.size 0 7 := by rw [hV]; exact there_below hT2 (by omega) (bel_box _ _)
    have hBV : Below w.heap.size w V := by rw [hV]; exact hB2.trans ((bel_box _ _).mono hB2.size)
    have htb : w2.heap.size < V.heap.size := by rw [hV]; simp
    have hrg : V.rangeAt w2.heap.size 0 [.int .i64 0, .slice none 0 0, .slice none 0 0, .slice none 0 0, .slice none 0 0, .slice none 0 0, .slice none 0 0] := by rw [hV]; exact (TC.boxed w2 [.int .i64 0, .slice none 0 0, .slice none 0 0, .slice none 0 0, .slice none 0 0, .slice none 0 0, .slice none 0 0] _).range
    rw [← hV]
    clear hV hT2 hB2
    generalize w2.heap.size = tb at *
    have hTd : V.drew.there w.heap.size 0 7 := fun j hj => hTr j hj
    have hr' := World.rangeAt_setCells_same V.drew w.heap.size 0 [.int .i64 0, .slice none 0 0, .slice none 0 0, .slice none 0 0, .slice none 0 0, .slice none 0 0, .slice none 0 0] hTd
    have hG := setCells_grown w.heap.size [.int .i64 0, .slice none 0 0, .slice none 0 0, .slice none 0 0, .slice none 0 0, .slice none 0 0, .slice none 0 0] 0 V.drew
    have hfin := run_loadVar_mid (P := Try.prog) (V.drew.setCells w.heap.size 0 [.int .i64 0, .slice none 0 0, .slice none 0 0, .slice none 0 0, .slice none 0 0, .slice none 0 0, .slice none 0 0]) w.heap.size 0 26 [.int .i64 0, .slice none 0 0, .slice none 0 0, .slice none 0 0, .slice none 0 0, .slice none 0 0, .slice none 0 0] _ hr' Try.underlying26 rfl info_tables
    have hrg9 : (V.drew.setCells w.heap.size 0 [.int .i64 0, .slice none 0 0, .slice none 0 0, .slice none 0 0, .slice none 0 0, .slice none 0 0, .slice none 0 0]).rangeAt tb 0 [.int .i64 0, .slice none 0 0, .slice none 0 0, .slice none 0 0, .slice none 0 0, .slice none 0 0, .slice none 0 0] := fun j v hv => by
      rw [World.cell?_of_block (w := V.drew) (a := ⟨tb, 0 + j, none⟩) (hG.block tb (by show tb < V.heap.size; exact htb) (by intro e; have e2 := Option.some.inj e; omega))]
      exact hrg j v hv
    obtain ⟨W9, hW9⟩ : ∃ W, W = V.drew.setCells w.heap.size 0 [.int .i64 0, .slice none 0 0, .slice none 0 0, .slice none 0 0, .slice none 0 0, .slice none 0 0, .slice none 0 0] := ⟨_, rfl⟩
    rw [← hW9] at hG hfin hrg9
    have HW9 : Hid (W9 = V.drew.setCells w.heap.size 0 [.int .i64 0, .slice none 0 0, .slice none 0 0, .slice none 0 0, .slice none 0 0, .slice none 0 0, .slice none 0 0]) := hW9
    have Hfin : Hid ((loadVar 26 ⟨w.heap.size, 0, none⟩).run Try.prog W9 = .ok (.agg #[.int .i64 0, .slice none 0 0, .slice none 0 0, .slice none 0 0, .slice none 0 0, .slice none 0 0, .slice none 0 0]) W9) := hfin
    clear hW9 hr' hfin
    refine wp_region_held_drew (S := fun w' => w'.rangeAt tb 0 [.int .i64 0, .slice none 0 0, .slice none 0 0, .slice none 0 0, .slice none 0 0, .slice none 0 0, .slice none 0 0]) (by kernel_rfl) (fun j v hv => hrg j v hv) (fun hHeld => ?_)
    refine wpAnyH_take (i := 0) (oi := ?o0) (v := ?v0) ?hi0 ?hs0 ?hf0 ?hr0 ?hQ0 (Or.inl ⟨?hw0, ?hy0⟩) ?hS0 ?rest0
    case hi0 => simp only [List.getElem?_toArray, List.getElem?_cons_zero]; rfl
    case hs0 => kernel_rfl
    case hf0 => kernel_rfl
    case hr0 => kernel_rfl
    case hQ0 => exact fun _ _ _ h => h
    case hS0 => assumption
    case hw0 => rfl
    case hy0 => intro w' hSw; (try dsimp only at hSw); go_simp; first | done | with_reducible rfl
    (try simp only [Act.put, List.setIfInBounds_toArray, List.set_cons_zero, List.set_cons_succ])
    refine wpAnyH_take (i := 1) (oi := ?o1) (v := .agg #[.int .i64 0, .slice none 0 0, .slice none 0 0, .slice none 0 0, .slice none 0 0, .slice none 0 0, .slice none 0 0]) ?hi1 ?hs1 ?hf1 ?hr1 ?hQ1 (yieldsIf_load_mid ?hw1 26 (Operand.tmp 7) ?ho1 tb 0 ?hx1 [.int .i64 0, .slice none 0 0, .slice none 0 0, .slice none 0 0, .slice none 0 0, .slice none 0 0, .slice none 0 0] _ (fun w h => h) Try.underlying26 rfl info_tables) ?hS1 ?rest1
    case hi1 => simp only [List.getElem?_toArray, List.getElem?_cons_succ, List.getElem?_cons_zero]; rfl
    case hs1 => kernel_rfl
    case hf1 => kernel_rfl
    case hr1 => kernel_rfl
    case hQ1 => exact fun _ _ _ h => h
    case hS1 => assumption
    case hw1 => rfl
    case ho1 => rfl
    case hx1 => rfl
    (try simp only [Act.put, List.setIfInBounds_toArray, List.set_cons_zero, List.set_cons_succ])
    refine wpAnyH_take (i := 2) (oi := ?o2) (v := ?v2) ?hi2 ?hs2 ?hf2 ?hr2 ?hQ2 (Or.inl ⟨?hw2, ?hy2⟩) ?hS2 ?rest2
    case hi2 => simp only [List.getElem?_toArray, List.getElem?_cons_succ, List.getElem?_cons_zero]; rfl
    case hs2 => kernel_rfl
    case hf2 => kernel_rfl
    case hr2 => kernel_rfl
    case hQ2 => exact fun _ _ _ h => h
    case hS2 => assumption
    case hw2 => rfl
    case hy2 => intro w' hSw; (try dsimp only at hSw); go_simp; first | done | with_reducible rfl
    (try simp only [Act.put, List.setIfInBounds_toArray, List.set_cons_zero, List.set_cons_succ])
    refine wpAnyH_take (i := 3) (oi := ?o3) (v := ?v3) ?hi3 ?hs3 ?hf3 ?hr3 ?hQ3 (Or.inl ⟨?hw3, ?hy3⟩) ?hS3 ?rest3
    case hi3 => simp only [List.getElem?_toArray, List.getElem?_cons_succ, List.getElem?_cons_zero]; rfl
    case hs3 => kernel_rfl
    case hf3 => kernel_rfl
    case hr3 => kernel_rfl
    case hQ3 => exact fun _ _ _ h => h
    case hS3 => assumption
    case hw3 => rfl
    case hy3 => intro w' hSw; (try dsimp only at hSw); go_simp; first | done | with_reducible rfl
    (try simp only [Act.put, List.setIfInBounds_toArray, List.set_cons_zero, List.set_cons_succ])
    refine wpAnyH_take (i := 4) (oi := ?o4) (v := ?v4) ?hi4 ?hs4 ?hf4 ?hr4 ?hQ4 (Or.inl ⟨?hw4, ?hy4⟩) ?hS4 ?rest4
    case hi4 => simp only [List.getElem?_toArray, List.getElem?_cons_succ, List.getElem?_cons_zero]; rfl
    case hs4 => kernel_rfl
    case hf4 => kernel_rfl
    case hr4 => kernel_rfl
    case hQ4 => exact fun _ _ _ h => h
    case hS4 => assumption
    case hw4 => rfl
    case hy4 => intro w' hSw; (try dsimp only at hSw); go_simp; first | done | with_reducible rfl
    (try simp only [Act.put, List.setIfInBounds_toArray, List.set_cons_zero, List.set_cons_succ])
    refine wpAnyH_take (i := 5) (oi := ?o5) (v := ?v5) ?hi5 ?hs5 ?hf5 ?hr5 ?hQ5 (Or.inl ⟨?hw5, ?hy5⟩) ?hS5 ?rest5
    case hi5 => simp only [List.getElem?_toArray, List.getElem?_cons_succ, List.getElem?_cons_zero]; rfl
    case hs5 => kernel_rfl
    case hf5 => kernel_rfl
    case hr5 => kernel_rfl
    case hQ5 => exact fun _ _ _ h => h
    case hS5 => assumption
    case hw5 => rfl
    case hy5 => intro w' hSw; (try dsimp only at hSw); go_simp; first | done | with_reducible rfl
    (try simp only [Act.put, List.setIfInBounds_toArray, List.set_cons_zero, List.set_cons_succ])
    refine wpAnyH_take (i := 6) (oi := ?o6) (v := ?v6) ?hi6 ?hs6 ?hf6 ?hr6 ?hQ6 (Or.inl ⟨?hw6, ?hy6⟩) ?hS6 ?rest6
    case hi6 => simp only [List.getElem?_toArray, List.getElem?_cons_succ, List.getElem?_cons_zero]; rfl
    case hs6 => kernel_rfl
    case hf6 => kernel_rfl
    case hr6 => kernel_rfl
    case hQ6 => exact fun _ _ _ h => h
    case hS6 => assumption
    case hw6 => rfl
    case hy6 => intro w' hSw; (try dsimp only at hSw); go_simp; first | done | with_reducible rfl
    (try simp only [Act.put, List.setIfInBounds_toArray, List.set_cons_zero, List.set_cons_succ])
    refine wpAnyH_take (i := 7) (oi := ?o7) (v := ?v7) ?hi7 ?hs7 ?hf7 ?hr7 ?hQ7 (Or.inl ⟨?hw7, ?hy7⟩) ?hS7 ?rest7
    case hi7 => simp only [List.getElem?_toArray, List.getElem?_cons_succ, List.getElem?_cons_zero]; rfl
    case hs7 => kernel_rfl
    case hf7 => kernel_rfl
    case hr7 => kernel_rfl
    case hQ7 => exact fun _ _ _ h => h
    case hS7 => assumption
    case hw7 => rfl
    case hy7 => intro w' hSw; (try dsimp only at hSw); go_simp; first | done | with_reducible rfl
    (try simp only [Act.put, List.setIfInBounds_toArray, List.set_cons_zero, List.set_cons_succ])
    refine wpAnyH_take (i := 8) (oi := ?o8) (v := ?v8) ?hi8 ?hs8 ?hf8 ?hr8 ?hQ8 (Or.inl ⟨?hw8, ?hy8⟩) ?hS8 ?rest8
    case hi8 => simp only [List.getElem?_toArray, List.getElem?_cons_succ, List.getElem?_cons_zero]; rfl
    case hs8 => kernel_rfl
    case hf8 => kernel_rfl
    case hr8 => kernel_rfl
    case hQ8 => exact fun _ _ _ h => h
    case hS8 => assumption
    case hw8 => rfl
    case hy8 => intro w' hSw; (try dsimp only at hSw); go_simp; first | done | with_reducible rfl
    (try simp only [Act.put, List.setIfInBounds_toArray, List.set_cons_zero, List.set_cons_succ])
    refine wpAnyH_take (i := 9) (oi := ?o9) (v := ?v9) ?hi9 ?hs9 ?hf9 ?hr9 ?hQ9 (Or.inl ⟨?hw9, ?hy9⟩) ?hS9 ?rest9
    case hi9 => simp only [List.getElem?_toArray, List.getElem?_cons_succ, List.getElem?_cons_zero]; rfl
    case hs9 => kernel_rfl
    case hf9 => kernel_rfl
    case hr9 => kernel_rfl
    case hQ9 => exact fun _ _ _ h => h
    case hS9 => assumption
    case hw9 => rfl
    case hy9 => intro w' hSw; (try dsimp only at hSw); go_simp; first | done | with_reducible rfl
    (try simp only [Act.put, List.setIfInBounds_toArray, List.set_cons_zero, List.set_cons_succ])
    refine wpAnyH_take (i := 10) (oi := ?o10) (v := ?v10) ?hi10 ?hs10 ?hf10 ?hr10 ?hQ10 (Or.inl ⟨?hw10, ?hy10⟩) ?hS10 ?rest10
    case hi10 => simp only [List.getElem?_toArray, List.getElem?_cons_succ, List.getElem?_cons_zero]; rfl
    case hs10 => kernel_rfl
    case hf10 => kernel_rfl
    case hr10 => kernel_rfl
    case hQ10 => exact fun _ _ _ h => h
    case hS10 => assumption
    case hw10 => rfl
    case hy10 => intro w' hSw; (try dsimp only at hSw); go_simp; first | done | with_reducible rfl
    (try simp only [Act.put, List.setIfInBounds_toArray, List.set_cons_zero, List.set_cons_succ])
    refine wpAnyH_take (i := 11) (oi := ?o11) (v := ?v11) ?hi11 ?hs11 ?hf11 ?hr11 ?hQ11 (Or.inl ⟨?hw11, ?hy11⟩) ?hS11 ?rest11
    case hi11 => simp only [List.getElem?_toArray, List.getElem?_cons_succ, List.getElem?_cons_zero]; rfl
    case hs11 => kernel_rfl
    case hf11 => kernel_rfl
    case hr11 => kernel_rfl
    case hQ11 => exact fun _ _ _ h => h
    case hS11 => assumption
    case hw11 => rfl
    case hy11 => intro w' hSw; (try dsimp only at hSw); go_simp; first | done | with_reducible rfl
    (try simp only [Act.put, List.setIfInBounds_toArray, List.set_cons_zero, List.set_cons_succ])
    refine wpAnyH_take (i := 12) (oi := ?o12) (v := ?v12) ?hi12 ?hs12 ?hf12 ?hr12 ?hQ12 (Or.inl ⟨?hw12, ?hy12⟩) ?hS12 ?rest12
    case hi12 => simp only [List.getElem?_toArray, List.getElem?_cons_succ, List.getElem?_cons_zero]; rfl
    case hs12 => kernel_rfl
    case hf12 => kernel_rfl
    case hr12 => kernel_rfl
    case hQ12 => exact fun _ _ _ h => h
    case hS12 => assumption
    case hw12 => rfl
    case hy12 => intro w' hSw; (try dsimp only at hSw); go_simp; first | done | with_reducible rfl
    (try simp only [Act.put, List.setIfInBounds_toArray, List.set_cons_zero, List.set_cons_succ])
    refine wpAnyH_ready (rs := [13]) (by kernel_rfl) (by simp) ?_
    refine AllReadyH.cons (o := ?o13) ?hi13 (fun K hK => ?_) AllReadyH.nil
    case hi13 => simp only [List.getElem?_toArray, List.getElem?_cons_succ, List.getElem?_cons_zero]; rfl
    rw [if_pos (by rfl)]
    refine wp_store_mid 26 _ _ rfl w.heap.size 0 #[.int .i64 0, .slice none 0 0, .slice none 0 0, .slice none 0 0, .slice none 0 0, .slice none 0 0, .slice none 0 0] rfl rfl hTd info_tables (by simp [Value.oneCell']) ?_
    rw [List.toList_toArray, ← HW9.out]
    refine hK.out _ _ hrg9 (fun hHeld => ?_)
    clear hK K
    refine wpAnyH_take (i := 14) (oi := ?o14) (v := ?v14) ?hi14 ?hs14 ?hf14 ?hr14 ?hQ14 (Or.inl ⟨?hw14, ?hy14⟩) ?hS14 ?rest14
    case hi14 => simp only [List.getElem?_toArray, List.getElem?_cons_succ, List.getElem?_cons_zero]; rfl
    case hs14 => kernel_rfl
    case hf14 => kernel_rfl
    case hr14 => kernel_rfl
    case hQ14 => exact fun _ _ _ h => h
    case hS14 => assumption
    case hw14 => rfl
    case hy14 => intro w' hSw; (try dsimp only at hSw); go_simp; first | done | with_reducible rfl
    (try simp only [Act.put, List.setIfInBounds_toArray, List.set_cons_zero, List.set_cons_succ])
    refine wpAnyH_done (by kernel_rfl) ?_ _
    go_wp2_with fail
    refine bodyPost_ret (v := .tuple #[.pointer none, .agg #[.int .i64 0, .slice none 0 0, .slice none 0 0, .slice none 0 0, .slice none 0 0, .slice none 0 0, .slice none 0 0], .bool true]) (eResults_tct Try.results13 rfl rfl Hfin.out rfl) rfl ?_
    exact ⟨hBV.drew.grown hG hBV.drew.size (fun q hq => by cases hq; exact Nat.le_refl _), Or.inl ⟨HN.out, rfl⟩⟩
  · have HG : Hid (Good s) := hg
    clear hg
    go_wp2_with fail
    refine (HR.out _).mono ?_
    rintro e w2 ⟨hW2, ⟨d, hd, rfl⟩ | ⟨_, B, rfl, hInB⟩⟩
    case inl => exact absurd HG.out hd.bad
    have hT2 := there_below hT1 (by omega) hW2
    have hB2 := hB1.trans (hW2.mono hB1.size)
    have hS2 : w.heap.size < w2.heap.size := Nat.lt_of_lt_of_le hS1 hW2.size
    have hAt2 := hAt.below hW2
    have hIn2 := hIn.below hW2
    have hb2 : w.heap.size < b := by omega
    have HT : Hid (∃ T, fileT s = T) := ⟨_, rfl⟩
    obtain ⟨T, hT⟩ := HT.out
    rw [hT] at hAt2 hIn2 hInB
    rw [hT]
    have HT2 : Hid (fileT s = T) := hT
    clear hT1 hB1 hW2 HR hT HT hAt hIn hb
    unfold TbA.cells
    go_wp2_with fail
    obtain ⟨V, hV⟩ : ∃ V, V = w2.alloc (.cells #[.int .i64 T.rules, .slice B.a1 T.ncl B.c1, .slice B.a2 T.nlb B.c2, .slice B.a3 T.nbs B.c3, .slice B.a4 T.ndf B.c4, .slice B.a5 T.nck B.c5, .slice B.a6 T.nnx B.c6] 26) := ⟨_, rfl⟩
    have hTr : V.there w.heap.size 0 7 := by rw [hV]; exact there_below hT2 (by omega) (bel_box _ _)
    have hBV : Below w.heap.size w V := by rw [hV]; exact hB2.trans ((bel_box _ _).mono hB2.size)
    have htb : w2.heap.size < V.heap.size := by rw [hV]; simp
    have hrg : V.rangeAt w2.heap.size 0 [.int .i64 T.rules, .slice B.a1 T.ncl B.c1, .slice B.a2 T.nlb B.c2, .slice B.a3 T.nbs B.c3, .slice B.a4 T.ndf B.c4, .slice B.a5 T.nck B.c5, .slice B.a6 T.nnx B.c6] := by rw [hV]; exact (TC.boxed w2 [.int .i64 T.rules, .slice B.a1 T.ncl B.c1, .slice B.a2 T.nlb B.c2, .slice B.a3 T.nbs B.c3, .slice B.a4 T.ndf B.c4, .slice B.a5 T.nck B.c5, .slice B.a6 T.nnx B.c6] _).range
    have HX : Hid (∀ W9, V.drew.grownBy W9 (some w.heap.size) → TbAt b T A W9 ∧ TbIn T A W9 ∧ TbIn T B W9) := fun W9 hG => by
      have kV : ∀ q, q < w2.heap.size → V.heap[q]? = w2.heap[q]? := by rw [hV]; exact fun q hq => (bel_box w2 _).block q hq
      have zV : w2.heap.size ≤ V.heap.size := Nat.le_of_lt htb
      have z9 : V.heap.size ≤ W9.heap.size := hG.size
      have k9 : ∀ q, q < w2.heap.size → q ≠ w.heap.size → W9.heap[q]? = w2.heap[q]? := fun q hq hne => by
        rw [hG.block q (show q < V.heap.size by omega) (fun e => hne (by first | exact Option.some.inj e | exact (Option.some.inj e).symm))]
        exact kV q hq
      refine ⟨hAt2.blk (k9 b hAt2.lt (by omega)), hIn2 W9 (by omega) (fun q h1 h2 => k9 q h2 (by omega)), hInB W9 (by omega) (fun q h1 h2 => k9 q h2 (by omega))⟩
    rw [← hV]
    clear hV hT2 hB2 hAt2 hIn2 hInB
    generalize w2.heap.size = tb at *
    have hTd : V.drew.there w.heap.size 0 7 := fun j hj => hTr j hj
    have hr' := World.rangeAt_setCells_same V.drew w.heap.size 0 [.int .i64 T.rules, .slice B.a1 T.ncl B.c1, .slice B.a2 T.nlb B.c2, .slice B.a3 T.nbs B.c3, .slice B.a4 T.ndf B.c4, .slice B.a5 T.nck B.c5, .slice B.a6 T.nnx B.c6] hTd
    have hG := setCells_grown w.heap.size [.int .i64 T.rules, .slice B.a1 T.ncl B.c1, .slice B.a2 T.nlb B.c2, .slice B.a3 T.nbs B.c3, .slice B.a4 T.ndf B.c4, .slice B.a5 T.nck B.c5, .slice B.a6 T.nnx B.c6] 0 V.drew
    have hfin := run_loadVar_mid (P := Try.prog) (V.drew.setCells w.heap.size 0 [.int .i64 T.rules, .slice B.a1 T.ncl B.c1, .slice B.a2 T.nlb B.c2, .slice B.a3 T.nbs B.c3, .slice B.a4 T.ndf B.c4, .slice B.a5 T.nck B.c5, .slice B.a6 T.nnx B.c6]) w.heap.size 0 26 [.int .i64 T.rules, .slice B.a1 T.ncl B.c1, .slice B.a2 T.nlb B.c2, .slice B.a3 T.nbs B.c3, .slice B.a4 T.ndf B.c4, .slice B.a5 T.nck B.c5, .slice B.a6 T.nnx B.c6] _ hr' Try.underlying26 rfl info_tables
    have hrg9 : (V.drew.setCells w.heap.size 0 [.int .i64 T.rules, .slice B.a1 T.ncl B.c1, .slice B.a2 T.nlb B.c2, .slice B.a3 T.nbs B.c3, .slice B.a4 T.ndf B.c4, .slice B.a5 T.nck B.c5, .slice B.a6 T.nnx B.c6]).rangeAt tb 0 [.int .i64 T.rules, .slice B.a1 T.ncl B.c1, .slice B.a2 T.nlb B.c2, .slice B.a3 T.nbs B.c3, .slice B.a4 T.ndf B.c4, .slice B.a5 T.nck B.c5, .slice B.a6 T.nnx B.c6] := fun j v hv => by
      rw [World.cell?_of_block (w := V.drew) (a := ⟨tb, 0 + j, none⟩) (hG.block tb (by show tb < V.heap.size; exact htb) (by intro e; have e2 := Option.some.inj e; omega))]
      exact hrg j v hv
    obtain ⟨W9, hW9⟩ : ∃ W, W = V.drew.setCells w.heap.size 0 [.int .i64 T.rules, .slice B.a1 T.ncl B.c1, .slice B.a2 T.nlb B.c2, .slice B.a3 T.nbs B.c3, .slice B.a4 T.ndf B.c4, .slice B.a5 T.nck B.c5, .slice B.a6 T.nnx B.c6] := ⟨_, rfl⟩
    rw [← hW9] at hG hfin hrg9
    have HW9 : Hid (W9 = V.drew.setCells w.heap.size 0 [.int .i64 T.rules, .slice B.a1 T.ncl B.c1, .slice B.a2 T.nlb B.c2, .slice B.a3 T.nbs B.c3, .slice B.a4 T.ndf B.c4, .slice B.a5 T.nck B.c5, .slice B.a6 T.nnx B.c6]) := hW9
    have Hfin : Hid ((loadVar 26 ⟨w.heap.size, 0, none⟩).run Try.prog W9 = .ok (.agg #[.int .i64 T.rules, .slice B.a1 T.ncl B.c1, .slice B.a2 T.nlb B.c2, .slice B.a3 T.nbs B.c3, .slice B.a4 T.ndf B.c4, .slice B.a5 T.nck B.c5, .slice B.a6 T.nnx B.c6]) W9) := hfin
    clear hW9 hr' hfin
    refine wp_region_held_drew (S := fun w' => w'.rangeAt tb 0 [.int .i64 T.rules, .slice B.a1 T.ncl B.c1, .slice B.a2 T.nlb B.c2, .slice B.a3 T.nbs B.c3, .slice B.a4 T.ndf B.c4, .slice B.a5 T.nck B.c5, .slice B.a6 T.nnx B.c6]) (by kernel_rfl) (fun j v hv => hrg j v hv) (fun hHeld => ?_)
    refine wpAnyH_take (i := 0) (oi := ?zo0) (v := ?zv0) ?zhi0 ?zhs0 ?zhf0 ?zhr0 ?zhQ0 (Or.inl ⟨?zhw0, ?zhy0⟩) ?zhS0 ?zrest0
    case zhi0 => simp only [List.getElem?_toArray, List.getElem?_cons_zero]; rfl
    case zhs0 => kernel_rfl
    case zhf0 => kernel_rfl
    case zhr0 => kernel_rfl
    case zhQ0 => exact fun _ _ _ h => h
    case zhS0 => assumption
    case zhw0 => rfl
    case zhy0 => intro w' hSw; (try dsimp only at hSw); go_simp; first | done | with_reducible rfl
    (try simp only [Act.put, List.setIfInBounds_toArray, List.set_cons_zero, List.set_cons_succ])
    refine wpAnyH_take (i := 1) (oi := ?zo1) (v := .agg #[.int .i64 T.rules, .slice B.a1 T.ncl B.c1, .slice B.a2 T.nlb B.c2, .slice B.a3 T.nbs B.c3, .slice B.a4 T.ndf B.c4, .slice B.a5 T.nck B.c5, .slice B.a6 T.nnx B.c6]) ?zhi1 ?zhs1 ?zhf1 ?zhr1 ?zhQ1 (yieldsIf_load_mid ?zhw1 26 (Operand.tmp 7) ?zho1 tb 0 ?zhx1 [.int .i64 T.rules, .slice B.a1 T.ncl B.c1, .slice B.a2 T.nlb B.c2, .slice B.a3 T.nbs B.c3, .slice B.a4 T.ndf B.c4, .slice B.a5 T.nck B.c5, .slice B.a6 T.nnx B.c6] _ (fun w h => h) Try.underlying26 rfl info_tables) ?zhS1 ?zrest1
    case zhi1 => simp only [List.getElem?_toArray, List.getElem?_cons_succ, List.getElem?_cons_zero]; rfl
    case zhs1 => kernel_rfl
    case zhf1 => kernel_rfl
    case zhr1 => kernel_rfl
    case zhQ1 => exact fun _ _ _ h => h
    case zhS1 => assumption
    case zhw1 => rfl
    case zho1 => rfl
    case zhx1 => rfl
    (try simp only [Act.put, List.setIfInBounds_toArray, List.set_cons_zero, List.set_cons_succ])
    refine wpAnyH_take (i := 2) (oi := ?zo2) (v := ?zv2) ?zhi2 ?zhs2 ?zhf2 ?zhr2 ?zhQ2 (Or.inl ⟨?zhw2, ?zhy2⟩) ?zhS2 ?zrest2
    case zhi2 => simp only [List.getElem?_toArray, List.getElem?_cons_succ, List.getElem?_cons_zero]; rfl
    case zhs2 => kernel_rfl
    case zhf2 => kernel_rfl
    case zhr2 => kernel_rfl
    case zhQ2 => exact fun _ _ _ h => h
    case zhS2 => assumption
    case zhw2 => rfl
    case zhy2 => intro w' hSw; (try dsimp only at hSw); go_simp; first | done | with_reducible rfl
    (try simp only [Act.put, List.setIfInBounds_toArray, List.set_cons_zero, List.set_cons_succ])
    refine wpAnyH_take (i := 3) (oi := ?zo3) (v := ?zv3) ?zhi3 ?zhs3 ?zhf3 ?zhr3 ?zhQ3 (Or.inl ⟨?zhw3, ?zhy3⟩) ?zhS3 ?zrest3
    case zhi3 => simp only [List.getElem?_toArray, List.getElem?_cons_succ, List.getElem?_cons_zero]; rfl
    case zhs3 => kernel_rfl
    case zhf3 => kernel_rfl
    case zhr3 => kernel_rfl
    case zhQ3 => exact fun _ _ _ h => h
    case zhS3 => assumption
    case zhw3 => rfl
    case zhy3 => intro w' hSw; (try dsimp only at hSw); go_simp; first | done | with_reducible rfl
    (try simp only [Act.put, List.setIfInBounds_toArray, List.set_cons_zero, List.set_cons_succ])
    refine wpAnyH_take (i := 4) (oi := ?zo4) (v := ?zv4) ?zhi4 ?zhs4 ?zhf4 ?zhr4 ?zhQ4 (Or.inl ⟨?zhw4, ?zhy4⟩) ?zhS4 ?zrest4
    case zhi4 => simp only [List.getElem?_toArray, List.getElem?_cons_succ, List.getElem?_cons_zero]; rfl
    case zhs4 => kernel_rfl
    case zhf4 => kernel_rfl
    case zhr4 => kernel_rfl
    case zhQ4 => exact fun _ _ _ h => h
    case zhS4 => assumption
    case zhw4 => rfl
    case zhy4 => intro w' hSw; (try dsimp only at hSw); go_simp; first | done | with_reducible rfl
    (try simp only [Act.put, List.setIfInBounds_toArray, List.set_cons_zero, List.set_cons_succ])
    refine wpAnyH_take (i := 5) (oi := ?zo5) (v := ?zv5) ?zhi5 ?zhs5 ?zhf5 ?zhr5 ?zhQ5 (Or.inl ⟨?zhw5, ?zhy5⟩) ?zhS5 ?zrest5
    case zhi5 => simp only [List.getElem?_toArray, List.getElem?_cons_succ, List.getElem?_cons_zero]; rfl
    case zhs5 => kernel_rfl
    case zhf5 => kernel_rfl
    case zhr5 => kernel_rfl
    case zhQ5 => exact fun _ _ _ h => h
    case zhS5 => assumption
    case zhw5 => rfl
    case zhy5 => intro w' hSw; (try dsimp only at hSw); go_simp; first | done | with_reducible rfl
    (try simp only [Act.put, List.setIfInBounds_toArray, List.set_cons_zero, List.set_cons_succ])
    refine wpAnyH_take (i := 6) (oi := ?zo6) (v := ?zv6) ?zhi6 ?zhs6 ?zhf6 ?zhr6 ?zhQ6 (Or.inl ⟨?zhw6, ?zhy6⟩) ?zhS6 ?zrest6
    case zhi6 => simp only [List.getElem?_toArray, List.getElem?_cons_succ, List.getElem?_cons_zero]; rfl
    case zhs6 => kernel_rfl
    case zhf6 => kernel_rfl
    case zhr6 => kernel_rfl
    case zhQ6 => exact fun _ _ _ h => h
    case zhS6 => assumption
    case zhw6 => rfl
    case zhy6 => intro w' hSw; (try dsimp only at hSw); go_simp; first | done | with_reducible rfl
    (try simp only [Act.put, List.setIfInBounds_toArray, List.set_cons_zero, List.set_cons_succ])
    refine wpAnyH_take (i := 7) (oi := ?zo7) (v := ?zv7) ?zhi7 ?zhs7 ?zhf7 ?zhr7 ?zhQ7 (Or.inl ⟨?zhw7, ?zhy7⟩) ?zhS7 ?zrest7
    case zhi7 => simp only [List.getElem?_toArray, List.getElem?_cons_succ, List.getElem?_cons_zero]; rfl
    case zhs7 => kernel_rfl
    case zhf7 => kernel_rfl
    case zhr7 => kernel_rfl
    case zhQ7 => exact fun _ _ _ h => h
    case zhS7 => assumption
    case zhw7 => rfl
    case zhy7 => intro w' hSw; (try dsimp only at hSw); go_simp; first | done | with_reducible rfl
    (try simp only [Act.put, List.setIfInBounds_toArray, List.set_cons_zero, List.set_cons_succ])
    refine wpAnyH_take (i := 8) (oi := ?zo8) (v := ?zv8) ?zhi8 ?zhs8 ?zhf8 ?zhr8 ?zhQ8 (Or.inl ⟨?zhw8, ?zhy8⟩) ?zhS8 ?zrest8
    case zhi8 => simp only [List.getElem?_toArray, List.getElem?_cons_succ, List.getElem?_cons_zero]; rfl
    case zhs8 => kernel_rfl
    case zhf8 => kernel_rfl
    case zhr8 => kernel_rfl
    case zhQ8 => exact fun _ _ _ h => h
    case zhS8 => assumption
    case zhw8 => rfl
    case zhy8 => intro w' hSw; (try dsimp only at hSw); go_simp; first | done | with_reducible rfl
    (try simp only [Act.put, List.setIfInBounds_toArray, List.set_cons_zero, List.set_cons_succ])
    refine wpAnyH_take (i := 9) (oi := ?zo9) (v := ?zv9) ?zhi9 ?zhs9 ?zhf9 ?zhr9 ?zhQ9 (Or.inl ⟨?zhw9, ?zhy9⟩) ?zhS9 ?zrest9
    case zhi9 => simp only [List.getElem?_toArray, List.getElem?_cons_succ, List.getElem?_cons_zero]; rfl
    case zhs9 => kernel_rfl
    case zhf9 => kernel_rfl
    case zhr9 => kernel_rfl
    case zhQ9 => exact fun _ _ _ h => h
    case zhS9 => assumption
    case zhw9 => rfl
    case zhy9 => intro w' hSw; (try dsimp only at hSw); go_simp; first | done | with_reducible rfl
    (try simp only [Act.put, List.setIfInBounds_toArray, List.set_cons_zero, List.set_cons_succ])
    refine wpAnyH_take (i := 10) (oi := ?zo10) (v := ?zv10) ?zhi10 ?zhs10 ?zhf10 ?zhr10 ?zhQ10 (Or.inl ⟨?zhw10, ?zhy10⟩) ?zhS10 ?zrest10
    case zhi10 => simp only [List.getElem?_toArray, List.getElem?_cons_succ, List.getElem?_cons_zero]; rfl
    case zhs10 => kernel_rfl
    case zhf10 => kernel_rfl
    case zhr10 => kernel_rfl
    case zhQ10 => exact fun _ _ _ h => h
    case zhS10 => assumption
    case zhw10 => rfl
    case zhy10 => intro w' hSw; (try dsimp only at hSw); go_simp; first | done | with_reducible rfl
    (try simp only [Act.put, List.setIfInBounds_toArray, List.set_cons_zero, List.set_cons_succ])
    refine wpAnyH_take (i := 11) (oi := ?zo11) (v := ?zv11) ?zhi11 ?zhs11 ?zhf11 ?zhr11 ?zhQ11 (Or.inl ⟨?zhw11, ?zhy11⟩) ?zhS11 ?zrest11
    case zhi11 => simp only [List.getElem?_toArray, List.getElem?_cons_succ, List.getElem?_cons_zero]; rfl
    case zhs11 => kernel_rfl
    case zhf11 => kernel_rfl
    case zhr11 => kernel_rfl
    case zhQ11 => exact fun _ _ _ h => h
    case zhS11 => assumption
    case zhw11 => rfl
    case zhy11 => intro w' hSw; (try dsimp only at hSw); go_simp; first | done | with_reducible rfl
    (try simp only [Act.put, List.setIfInBounds_toArray, List.set_cons_zero, List.set_cons_succ])
    refine wpAnyH_take (i := 12) (oi := ?zo12) (v := ?zv12) ?zhi12 ?zhs12 ?zhf12 ?zhr12 ?zhQ12 (Or.inl ⟨?zhw12, ?zhy12⟩) ?zhS12 ?zrest12
    case zhi12 => simp only [List.getElem?_toArray, List.getElem?_cons_succ, List.getElem?_cons_zero]; rfl
    case zhs12 => kernel_rfl
    case zhf12 => kernel_rfl
    case zhr12 => kernel_rfl
    case zhQ12 => exact fun _ _ _ h => h
    case zhS12 => assumption
    case zhw12 => rfl
    case zhy12 => intro w' hSw; (try dsimp only at hSw); go_simp; first | done | with_reducible rfl
    (try simp only [Act.put, List.setIfInBounds_toArray, List.set_cons_zero, List.set_cons_succ])
    refine wpAnyH_ready (rs := [13]) (by kernel_rfl) (by simp) ?_
    refine AllReadyH.cons (o := ?zo13) ?zhi13 (fun K hK => ?_) AllReadyH.nil
    case zhi13 => simp only [List.getElem?_toArray, List.getElem?_cons_succ, List.getElem?_cons_zero]; rfl
    rw [if_pos (by rfl)]
    refine wp_store_mid 26 _ _ rfl w.heap.size 0 #[.int .i64 T.rules, .slice B.a1 T.ncl B.c1, .slice B.a2 T.nlb B.c2, .slice B.a3 T.nbs B.c3, .slice B.a4 T.ndf B.c4, .slice B.a5 T.nck B.c5, .slice B.a6 T.nnx B.c6] rfl rfl hTd info_tables (by simp [Value.oneCell']) ?_
    rw [List.toList_toArray, ← HW9.out]
    refine hK.out _ _ hrg9 (fun hHeld => ?_)
    clear hK K
    refine wpAnyH_take (i := 14) (oi := ?zo14) (v := ?zv14) ?zhi14 ?zhs14 ?zhf14 ?zhr14 ?zhQ14 (Or.inl ⟨?zhw14, ?zhy14⟩) ?zhS14 ?zrest14
    case zhi14 => simp only [List.getElem?_toArray, List.getElem?_cons_succ, List.getElem?_cons_zero]; rfl
    case zhs14 => kernel_rfl
    case zhf14 => kernel_rfl
    case zhr14 => kernel_rfl
    case zhQ14 => exact fun _ _ _ h => h
    case zhS14 => assumption
    case zhw14 => rfl
    case zhy14 => intro w' hSw; (try dsimp only at hSw); go_simp; first | done | with_reducible rfl
    (try simp only [Act.put, List.setIfInBounds_toArray, List.set_cons_zero, List.set_cons_succ])
    refine wpAnyH_done (by kernel_rfl) ?_ _
    go_wp2_with fail
    refine bodyPost_ret (v := .tuple #[.pointer (some ⟨b, 0, none⟩), .agg #[.int .i64 T.rules, .slice B.a1 T.ncl B.c1, .slice B.a2 T.nlb B.c2, .slice B.a3 T.nbs B.c3, .slice B.a4 T.ndf B.c4, .slice B.a5 T.nck B.c5, .slice B.a6 T.nnx B.c6], .bool true]) (eResults_tct Try.results13 rfl rfl Hfin.out rfl) rfl ?_
    obtain ⟨X1, X2, X3⟩ := HX.out W9 hG
    refine ⟨hBV.drew.grown hG hBV.drew.size (fun q hq => by cases hq; exact Nat.le_refl _), Or.inr ⟨HG.out, b, A, B, ?_, Nat.le_of_lt hb2, ?_, ?_, ?_⟩⟩
    · rw [HT2.out]; rfl
    · rw [HT2.out]; exact X1
    · rw [HT2.out]; exact X2
    · rw [HT2.out]; exact X3
end Go.Proofs.Ytoaaklhpmhjhkaa
