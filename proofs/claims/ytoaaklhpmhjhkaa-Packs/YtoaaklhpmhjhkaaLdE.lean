/-
  Contract of the program's Decode.
-/
import Derived.Test.YtoaaklhpmhjhkaaLdD
namespace Go.Proofs.Ytoaaklhpmhjhkaa
open Go.RowKit

theorem eResults_cell2 {fn : Func} {p u : Tmp} {ty : TypeId} (h : fn.results = #[.cell p ty, .tmp u]) (tmps : Array Value) (P : Program) (w : World) :
    (results fn tmps).run P w = ((asAddr (tmps.getD p undef)).run P w).andThen fun a w₁ => ((loadVar ty a).run P w₁).andThen fun v w₂ => .ok (.tuple #[v, tmps.getD u undef]) w₂ := by
  simp only [results, h]
  simp [Sem.run_bind, Result.andThen]
theorem eResults_load2 {fn : Func} {p u : Tmp} {ty : TypeId} {P : Program} {w : World} {ad : Addr} {v b : Value} {tmps : Array Value} (h : fn.results = #[.cell p ty, .tmp u]) (ht : tmps.getD p undef = .pointer (some ad)) (hl : (loadVar ty ad).run P w = .ok v w) (hb : tmps.getD u undef = b) :
    (results fn tmps).run P w = .ok (.tuple #[v, b]) w := by
  rw [eResults_cell2 h, ht]; subst hb; simp [asAddr, hl]

/-- The head can be one, and the file is as long as it says. -/
def Fits (s : ByteArray) : Prop := 10 ≤ s.size ∧ HeadOK (num s 4 1) (num s 6 1) (num s 7 2) (num s 9 1) ∧ s.size = 266 + (num s 6 1).toNat * ((num s 9 1).toNat + 2) + (num s 7 2).toNat * 2 + 4
/-- The tables that a file tells. -/
def fileT (s : ByteArray) : Tb := rdT s (num s 6 1).toNat (num s 7 2).toNat (num s 9 1).toNat
/-- The tables are sound, and they are written so. -/
def Back (s : ByteArray) : Prop := Snd (fileT s) ∧ (⟨(fileL (fileT s)).toArray⟩ : ByteArray) = s
/-- What is wrong with a file. -/
def DecIs (s : ByteArray) (c : Int) : Prop :=
  (magicB s = false ∧ c = 12) ∨ (magicB s = true ∧ ¬ Fits s ∧ c = 13) ∨ (magicB s = true ∧ Fits s ∧ sumB s = false ∧ c = 14) ∨ (magicB s = true ∧ Fits s ∧ sumB s = true ∧ ¬ Back s ∧ c = 11)
/-- The lists stand in every later world that keeps the blocks from B on. -/
def TbF (B : Nat) (T : Tb) (A : TbA) (w : World) : Prop := ∀ w'', w.heap.size ≤ w''.heap.size → (∀ q, B ≤ q → q < w.heap.size → w''.heap[q]? = w.heap[q]?) → TbIn T A w''
theorem TbF.in_ {B : Nat} {T : Tb} {A : TbA} {w : World} (h : TbF B T A w) : TbIn T A w := h w (Nat.le_refl _) (fun _ _ _ => rfl)
theorem TbF.below {B : Nat} {T : Tb} {A : TbA} {w w' : World} (h : TbF B T A w) (hW : Below w.heap.size w w') : TbF B T A w' := fun w'' hz hk =>
  h w'' (Nat.le_trans hW.size hz) (fun q h1 h2 => by rw [hk q h1 (Nat.lt_of_lt_of_le h2 hW.size), hW.block q h2])
/-- What Decode leaves. -/
def DecPost (s : ByteArray) (w : World) (e : Ending) (w' : World) : Prop :=
  Below w.heap.size w w' ∧ ((∃ c, DecIs s c ∧ e = .returned (.tuple #[.agg zeroT, .int .i64 c])) ∨
    ((magicB s = true ∧ Fits s ∧ sumB s = true ∧ Back s) ∧ ∃ A : TbA, e = .returned (.tuple #[.agg (A.cells (fileT s)), .int .i64 0]) ∧ TbF w.heap.size (fileT s) A w'))

theorem zeroT_there (w : World) (t : TypeId) : (w.alloc (.cells zeroT t)).there w.heap.size 0 7 := fun j hj => by
  unfold zeroT
  rcases j with _ | _ | _ | _ | _ | _ | _ | j <;> first | (refine ⟨?_, ?_⟩ <;> go_simp) | omega
theorem there_below {W W' : World} {b o n : Nat} (h : W.there b o n) (hn : 0 < n) (hB : Below W.heap.size W W') : W'.there b o n := fun j hj => by
  have hb : b < W.heap.size := by
    have h0 := (h 0 hn).1
    obtain ⟨v, hv⟩ := Option.isSome_iff_exists.1 h0
    exact World.block_lt_of_cell? W _ hv
  have hk := hB.block b hb
  rw [World.cell?_of_block (w := W) (w' := W') (a := ⟨b, o + j, none⟩) hk, World.frozen?_of_block (w := W) (w' := W') (a := ⟨b, o + j, none⟩) hk]
  exact h j hj
/-- The results where a file is refused. -/
theorem dec_out {s : ByteArray} {w W : World} {c : Int} (hth : W.there w.heap.size 0 7) (hB : Below w.heap.size w W) (hD : DecIs s c) :
    ∃ W', W' = W.setCells w.heap.size 0 zeroT.toList ∧ (loadVar 26 ⟨w.heap.size, 0, none⟩).run Try.prog W' = .ok (.agg zeroT) W' ∧ DecPost s w (.returned (.tuple #[.agg zeroT, .int .i64 c])) W' := by
  refine ⟨_, rfl, ?_, ?_, Or.inl ⟨c, hD, rfl⟩⟩
  · exact run_loadVar_mid (P := Try.prog) _ w.heap.size 0 26 zeroT.toList _ (World.rangeAt_setCells_same W w.heap.size 0 zeroT.toList hth) Try.underlying26 rfl info_tables
  · exact hB.grown (setCells_grown w.heap.size zeroT.toList 0 W) hB.size (fun q hq => by cases hq; exact Nat.le_refl _)

theorem bytes_inj {a b : ByteArray} (h : a.toList = b.toList) : a = b := by
  have h2 : a.data.toList = b.data.toList := by rw [ByteArray.toList_eq, ByteArray.toList_eq] at h; exact h
  apply ByteArray.ext
  exact Array.ext' h2
/-- A head in memory. -/
structure HdAt (b : Nat) (r st ce wd : Int) (w : World) : Prop where
  c0 : w.cell? ⟨b, 0, none⟩ = some (.int .i64 r)
  c1 : w.cell? ⟨b, 1, none⟩ = some (.int .i64 st)
  c2 : w.cell? ⟨b, 2, none⟩ = some (.int .i64 ce)
  c3 : w.cell? ⟨b, 3, none⟩ = some (.int .i64 wd)
theorem HdAt.below {b : Nat} {r st ce wd : Int} {w w' : World} (h : HdAt b r st ce wd w) (hW : Below w.heap.size w w') : HdAt b r st ce wd w' := by
  have hb := World.block_lt_of_cell? w _ h.c0
  have e : ∀ k, w'.cell? ⟨b, k, none⟩ = w.cell? ⟨b, k, none⟩ := fun k => hW.cell (p := ⟨b, k, none⟩) hb
  exact ⟨by rw [e]; exact h.c0, by rw [e]; exact h.c1, by rw [e]; exact h.c2, by rw [e]; exact h.c3⟩
theorem HdAt.boxed (r st ce wd : Int) (w : World) (t : TypeId) : HdAt w.heap.size r st ce wd (w.alloc (.cells #[.int .i64 r, .int .i64 st, .int .i64 ce, .int .i64 wd] t)) := by
  refine ⟨?_, ?_, ?_, ?_⟩ <;> go_simp

set_option maxRecDepth 100000 in
set_option maxHeartbeats 4000000 in
theorem decode_any (s : ByteArray) (w : World) (hs : s.size ≤ 281474976710656) : Calls Try.prog 72 #[.string s] w (DecPost s w) := by
  have hz := zero_tables
  obtain ⟨W0, hW0⟩ : ∃ W, W = w.alloc (.cells #[.int .i64 0, .slice none 0 0, .slice none 0 0, .slice none 0 0, .slice none 0 0, .slice none 0 0, .slice none 0 0] 26) := ⟨_, rfl⟩
  have hT0 : W0.there w.heap.size 0 7 := by rw [hW0]; exact zeroT_there w _
  have hB0 : Below w.heap.size w W0 := by rw [hW0]; exact bel_box _ _
  have hS0 : w.heap.size < W0.heap.size := by rw [hW0]; simp
  have HM := isMagic_any s W0 (by unfold maxLen; omega)
  by_cases hm : magicB s = true
  case neg =>
    have hm' : magicB s = false := by simpa using hm
    rw [hm'] at HM
    obtain ⟨W1, hW1, hl1, hp1⟩ := dec_out hT0 hB0 (Or.inl ⟨hm', rfl⟩ : DecIs s 12)
    have HP1 : Hid (DecPost s w (.returned (.tuple #[.agg zeroT, .int .i64 12])) W1) := hp1
    have HM1 : Hid (Calls Try.prog 99 #[.string s] W0 fun e w' => e = .returned (.bool false) ∧ w' = W0) := HM
    have HW1 : Hid (W1 = W0.setCells w.heap.size 0 zeroT.toList) := hW1
    have HL1 : Hid ((loadVar 26 ⟨w.heap.size, 0, none⟩).run Try.prog W1 = .ok (.agg zeroT) W1) := hl1
    clear HM hp1 hm hW1 hl1
    go_enter Try.func72, Try.ntmps72
    go_wp2_with fail
    rw [← hW0]
    clear hW0
    refine HM1.out.mono ?_
    rintro e W0 ⟨rfl, rfl⟩
    go_wp2_with (first | (refine wpList_store_mid rfl 26 _ _ rfl w.heap.size 0 zeroT rfl rfl hT0 info_tables (by simp [zeroT, Value.oneCell']) ?_; rw [← HW1.out]))
    refine bodyPost_ret (v := .tuple #[.agg zeroT, .int .i64 12]) (eResults_load2 Try.results72 rfl HL1.out rfl) rfl HP1.out
  have HM1 : Hid (Calls Try.prog 99 #[.string s] W0 fun e w' => e = .returned (.bool true) ∧ w' = W0) := by rw [hm] at HM; exact HM
  clear HM
  by_cases h10 : s.size < 10
  · have h10' : (s.size : Int) < 10 := by omega
    obtain ⟨W1, hW1, hl1, hp1⟩ := dec_out hT0 hB0 (Or.inr (Or.inl ⟨hm, fun h => by have := h.1; omega, rfl⟩) : DecIs s 13)
    have HP1 : Hid (DecPost s w (.returned (.tuple #[.agg zeroT, .int .i64 13])) W1) := hp1
    have HW1 : Hid (W1 = W0.setCells w.heap.size 0 zeroT.toList) := hW1
    have HL1 : Hid ((loadVar 26 ⟨w.heap.size, 0, none⟩).run Try.prog W1 = .ok (.agg zeroT) W1) := hl1
    clear hp1 hm hW1 hl1
    go_enter Try.func72, Try.ntmps72
    go_wp2_with fail
    rw [← hW0]
    clear hW0
    refine HM1.out.mono ?_
    rintro e W0 ⟨rfl, rfl⟩
    go_wp2_with (first | (refine wpList_store_mid rfl 26 _ _ rfl w.heap.size 0 zeroT rfl rfl hT0 info_tables (by simp [zeroT, Value.oneCell']) ?_; rw [← HW1.out]))
    refine bodyPost_ret (v := .tuple #[.agg zeroT, .int .i64 13]) (eResults_load2 Try.results72 rfl HL1.out rfl) rfl HP1.out
  have h10' : ¬ (s.size : Int) < 10 := by omega
  have HH : Hid (Calls Try.prog 100 #[.string s] W0 fun e w' => e = .returned (headV s) ∧ Below W0.heap.size W0 w') := readHead_any s W0 hs (by omega)
  have Hm : Hid (magicB s = true) := hm
  have b4 := num_bd s 4 1 (by omega)
  have b6 := num_bd s 6 1 (by omega)
  have b7 := num_bd s 7 2 (by omega)
  have b9 := num_bd s 9 1 (by omega)
  have HF : Hid (∀ st ce wd : Nat, num s 6 1 = st → num s 7 2 = ce → num s 9 1 = wd → (Fits s ↔ HeadOK (num s 4 1) st ce wd ∧ s.size = 266 + st * (wd + 2) + ce * 2 + 4)) := fun st ce wd e1 e2 e3 => by
    unfold Fits
    rw [e1, e2, e3]
    simp only [Int.toNat_natCast]
    exact ⟨fun h => h.2, fun h => ⟨by omega, h⟩⟩
  have HT : Hid (∀ st ce wd : Nat, num s 6 1 = st → num s 7 2 = ce → num s 9 1 = wd → fileT s = rdT s st ce wd) := fun st ce wd e1 e2 e3 => by
    unfold fileT
    rw [e1, e2, e3]
    simp only [Int.toNat_natCast]
  obtain ⟨st, e6⟩ : ∃ st : Nat, num s 6 1 = st := ⟨(num s 6 1).toNat, by omega⟩
  obtain ⟨ce, e7⟩ : ∃ ce : Nat, num s 7 2 = ce := ⟨(num s 7 2).toNat, by omega⟩
  obtain ⟨wd, e9⟩ : ∃ wd : Nat, num s 9 1 = wd := ⟨(num s 9 1).toNat, by omega⟩
  have HFi : Hid (Fits s ↔ HeadOK (num s 4 1) st ce wd ∧ s.size = 266 + st * (wd + 2) + ce * 2 + 4) := HF.out st ce wd e6 e7 e9
  have HTi : Hid (fileT s = rdT s st ce wd) := HT.out st ce wd e6 e7 e9
  have HH1 : Hid (Calls Try.prog 100 #[.string s] W0 fun e w' => e = .returned (.agg #[.int .i64 (num s 4 1), .int .i64 st, .int .i64 ce, .int .i64 wd]) ∧ Below W0.heap.size W0 w') := by
    have h := HH.out
    unfold headV at h
    rw [e6, e7, e9] at h
    exact h
  clear HH HF HT e6 e7 e9 b4 b6 b7 b9 hm h10
  go_enter Try.func72, Try.ntmps72
  go_wp2_with fail
  rw [← hW0]
  clear hW0
  refine HM1.out.mono ?_
  rintro e W0 ⟨rfl, rfl⟩
  go_wp2_with fail
  refine HH1.out.mono ?_
  rintro e w1 ⟨rfl, hW1⟩
  have hT1 := there_below hT0 (by omega) hW1
  have hB1 := hB0.trans (hW1.mono (Nat.le_of_lt hS0))
  have hS1 := hW1.size
  clear HH1 HM1 hT0 hB0 hW1
  go_wp2_with fail
  obtain ⟨W2, hW2⟩ : ∃ W, W = w1.alloc (.cells #[.int .i64 (num s 4 1), .int .i64 st, .int .i64 ce, .int .i64 wd] 127) := ⟨_, rfl⟩
  have hx2 : Below w1.heap.size w1 W2 := by rw [hW2]; exact bel_box _ _
  have hT2 := there_below hT1 (by omega) hx2
  have hB2 := hB1.trans (hx2.mono hB1.size)
  have hD2 : HdAt w1.heap.size (num s 4 1) st ce wd W2 := by rw [hW2]; exact HdAt.boxed _ _ _ _ _ _
  rw [← hW2]
  clear hx2 hT1 hB1 hW2
  have hhd : w.heap.size < w1.heap.size := by omega
  clear hS1 hS0
  generalize w1.heap.size = hd at *
  refine Calls.mono (canBe_any (num s 4 1) st ce wd W2) ?_
  rintro e w3 ⟨bb, rfl, hbb, hW3⟩
  have hT3 := there_below hT2 (by omega) hW3
  have hB3 := hB2.trans (hW3.mono hB2.size)
  have hD3 := hD2.below hW3
  clear hT2 hB2 hD2 hW3
  rcases bb with _ | _
  · have hno : ¬ HeadOK (num s 4 1) st ce wd := fun h => by simpa using hbb.2 h
    obtain ⟨V, hV, hl, hp⟩ := dec_out hT3 hB3 (Or.inr (Or.inl ⟨Hm.out, fun h => hno (HFi.out.1 h).1, rfl⟩) : DecIs s 13)
    have HP1 : Hid (DecPost s w (.returned (.tuple #[.agg zeroT, .int .i64 13])) V) := hp
    have HW1 : Hid (V = w3.setCells w.heap.size 0 zeroT.toList) := hV
    have HL1 : Hid ((loadVar 26 ⟨w.heap.size, 0, none⟩).run Try.prog V = .ok (.agg zeroT) V) := hl
    clear hp hV hl
    go_wp2_with (first | (refine wpList_store_mid rfl 26 _ _ rfl w.heap.size 0 zeroT rfl rfl hT3 info_tables (by simp [zeroT, Value.oneCell']) ?_; rw [← HW1.out]))
    refine bodyPost_ret (v := .tuple #[.agg zeroT, .int .i64 13]) (eResults_load2 Try.results72 rfl HL1.out rfl) rfl HP1.out
  have HOK : Hid (HeadOK (num s 4 1) st ce wd) := hbb.1 rfl
  have hst : st ≤ 96 := by have := HOK.out.2.1; omega
  have hce : ce ≤ 24576 := by have := HOK.out.2.2.1; omega
  have hwd : wd = 1 ∨ wd = 2 := by have := HOK.out.2.2.2; omega
  clear hbb
  have k0 := hD3.c0
  have k1 := hD3.c1
  have k2 := hD3.c2
  have k3 := hD3.c3
  go_wp2_with fail
  clear k0 k1 k2 k3
  refine Calls.mono (size_any (num s 4 1) st ce wd w3 hst hce hwd) ?_
  rintro e w4 ⟨rfl, hW4⟩
  have hT4 := there_below hT3 (by omega) hW4
  have hB4 := hB3.trans (hW4.mono hB3.size)
  have hD4 := hD3.below hW4
  clear hT3 hB3 hD3 hW4
  obtain ⟨n, hn⟩ : ∃ n, n = 266 + st * (wd + 2) + ce * 2 + 4 := ⟨_, rfl⟩
  rw [← hn]
  rw [← hn] at HFi
  have Hn : Hid (n = 266 + st * (wd + 2) + ce * 2 + 4) := hn
  clear hn
  by_cases hsz : s.size = n
  case neg =>
    have hq1 : ((s.size : Int) == (n : Int)) = false := by simp; omega
    have hq2 : ((s.size : Int) != (n : Int)) = true := by simp; omega
    have hq3 : ¬ (s.size : Int) = (n : Int) := by omega
    obtain ⟨V, hV, hl, hp⟩ := dec_out hT4 hB4 (Or.inr (Or.inl ⟨Hm.out, fun h => hsz (HFi.out.1 h).2, rfl⟩) : DecIs s 13)
    have HP1 : Hid (DecPost s w (.returned (.tuple #[.agg zeroT, .int .i64 13])) V) := hp
    have HW1 : Hid (V = w4.setCells w.heap.size 0 zeroT.toList) := hV
    have HL1 : Hid ((loadVar 26 ⟨w.heap.size, 0, none⟩).run Try.prog V = .ok (.agg zeroT) V) := hl
    clear hp hV hl
    go_wp2_with (first | (refine wpList_store_mid rfl 26 _ _ rfl w.heap.size 0 zeroT rfl rfl hT4 info_tables (by simp [zeroT, Value.oneCell']) ?_; rw [← HW1.out]))
    refine bodyPost_ret (v := .tuple #[.agg zeroT, .int .i64 13]) (eResults_load2 Try.results72 rfl HL1.out rfl) rfl HP1.out
  have hq1 : ((s.size : Int) == (n : Int)) = true := by simp; omega
  have hq2 : ((s.size : Int) != (n : Int)) = false := by simp; omega
  go_wp2_with fail
  have Hsz : Hid (s.size = 266 + st * (wd + 2) + ce * 2 + 4) := by show _ = _; rw [hsz, Hn.out]
  have HFt : Hid (Fits s) := HFi.out.2 ⟨HOK.out, hsz⟩
  have h4 : 4 ≤ s.size := by rw [Hsz.out]; omega
  have hs2 : s.size ≤ 1000000 := by
    rw [Hsz.out]
    have : st * (wd + 2) ≤ 96 * 4 := Nat.mul_le_mul hst (by omega)
    omega
  clear hq1 hq2
  refine Calls.mono (hasSum_any s w4 h4 hs2) ?_
  rintro e w5 ⟨rfl, hW5⟩
  have hT5 := there_below hT4 (by omega) hW5
  have hB5 := hB4.trans (hW5.mono hB4.size)
  have hD5 := hD4.below hW5
  clear hT4 hB4 hD4 hW5
  by_cases hsum : sumB s = true
  case neg =>
    have hsum' : sumB s = false := by simpa using hsum
    rw [hsum']
    obtain ⟨V, hV, hl, hp⟩ := dec_out hT5 hB5 (Or.inr (Or.inr (Or.inl ⟨Hm.out, HFt.out, hsum', rfl⟩)) : DecIs s 14)
    have HP1 : Hid (DecPost s w (.returned (.tuple #[.agg zeroT, .int .i64 14])) V) := hp
    have HW1 : Hid (V = w5.setCells w.heap.size 0 zeroT.toList) := hV
    have HL1 : Hid ((loadVar 26 ⟨w.heap.size, 0, none⟩).run Try.prog V = .ok (.agg zeroT) V) := hl
    clear hp hV hl
    go_wp2_with (first | (refine wpList_store_mid rfl 26 _ _ rfl w.heap.size 0 zeroT rfl rfl hT5 info_tables (by simp [zeroT, Value.oneCell']) ?_; rw [← HW1.out]))
    refine bodyPost_ret (v := .tuple #[.agg zeroT, .int .i64 14]) (eResults_load2 Try.results72 rfl HL1.out rfl) rfl HP1.out
  rw [hsum]
  have Hsum : Hid (sumB s = true) := hsum
  clear hsum
  have k0 := hD5.c0
  have k1 := hD5.c1
  have k2 := hD5.c2
  have k3 := hD5.c3
  go_wp2_with fail
  clear k0 k1 k2 k3
  refine Calls.mono (readTables_any s st ce wd w5 hs2 hst hce hwd Hsz.out) ?_
  rintro e w6 ⟨A, rfl, hI6f, hW6⟩
  have hI6 := hI6f w6 (Nat.le_refl _) (fun _ _ _ => rfl)
  have hbl5 : w.heap.size < w5.heap.size := by
    obtain ⟨v, hv⟩ := Option.isSome_iff_exists.1 (hT5 0 (by omega)).1
    exact World.block_lt_of_cell? w5 _ hv
  have hT6 := there_below hT5 (by omega) hW6
  have hB6 := hB5.trans (hW6.mono hB5.size)
  have hTz : TbSz (rdT s st ce wd) := by
    refine ⟨?_, ?_, ?_, ?_, ?_, ?_⟩ <;> (show _ + 3 ≤ _; simp only [rdT]; omega)
  have HI : Hid (∀ w'', w6.heap.size ≤ w''.heap.size → (∀ q, w5.heap.size ≤ q → q < w6.heap.size → w''.heap[q]? = w6.heap[q]?) → TbIn (rdT s st ce wd) A w'') := hI6f
  clear hT5 hB5 hD5 hW6 hst hce hwd hI6f
  generalize rdT s st ce wd = T at *
  unfold TbA.cells
  go_wp2_with fail
  obtain ⟨W7, hW7⟩ : ∃ W, W = w6.alloc (.cells #[.int .i64 T.rules, .slice A.a1 T.ncl A.c1, .slice A.a2 T.nlb A.c2, .slice A.a3 T.nbs A.c3, .slice A.a4 T.ndf A.c4, .slice A.a5 T.nck A.c5, .slice A.a6 T.nnx A.c6] 26) := ⟨_, rfl⟩
  have hx7 : Below w6.heap.size w6 W7 := by rw [hW7]; exact bel_box _ _
  have hT7 := there_below hT6 (by omega) hx7
  have hB7 := hB6.trans (hx7.mono hB6.size)
  have hA7 : TbAt w6.heap.size T A W7 := by rw [hW7]; exact TbAt.boxed T A w6 _
  have hI7 := hI6.below hx7
  have hbl : w.heap.size < w6.heap.size := by
    obtain ⟨v, hv⟩ := Option.isSome_iff_exists.1 (hT6 0 (by omega)).1
    exact World.block_lt_of_cell? w6 _ hv
  have HK7 : Hid (∀ q, q < w6.heap.size → W7.heap[q]? = w6.heap[q]?) := fun q hq => hx7.block q hq
  have HZ7 : Hid (w6.heap.size ≤ W7.heap.size) := hx7.size
  rw [← hW7]
  clear hx7 hT6 hB6 hW7 hI6
  generalize w6.heap.size = tb at *
  refine Calls.mono (codecEncode_any tb T A W7 hTz hA7 hI7) ?_
  rintro e w8 ⟨hW8, hcase⟩
  have hT8 := there_below hT7 (by omega) hW8
  have hB8 := hB7.trans (hW8.mono hB7.size)
  have hA8 := hA7.below hW8
  have hI8 := hI7.below hW8
  have HI8 : Hid (∀ W9, w8.grownBy W9 (some w.heap.size) → TbF w.heap.size T A W9) := fun W9 hG w'' hz' hk => by
    have z7 := HZ7.out
    have z8 := hW8.size
    have z9 := hG.size
    refine HI.out w'' (by omega) (fun q h1 h2 => ?_)
    rw [hk q (by omega) (by omega), hG.block q (by omega) (fun e => by have := Option.some.inj e; omega), hW8.block q (by omega), HK7.out q h2]
  clear hT7 hB7 hA7 hI7 hW8 HI HK7 HZ7
  rcases hcase with ⟨hS, rfl⟩ | ⟨hS, rfl⟩
  · have HS : Hid (Snd T) := hS
    obtain ⟨F, hF⟩ : ∃ F : ByteArray, (⟨(fileL T).toArray⟩ : ByteArray) = F := ⟨_, rfl⟩
    rw [hF]
    have HF : Hid ((⟨(fileL T).toArray⟩ : ByteArray) = F) := hF
    clear hS hF
    by_cases hFs : F = s
    case neg =>
      have hq1 : (F.toList == s.toList) = false := by
        rw [beq_eq_false_iff_ne]; exact fun h => hFs (bytes_inj h)
      have hq2 : (F.toList != s.toList) = true := by simp only [bne, hq1]; rfl
      obtain ⟨V, hV, hl, hp⟩ := dec_out hT8 hB8 (Or.inr (Or.inr (Or.inr ⟨Hm.out, HFt.out, Hsum.out, fun h => hFs (by have h1 := h.2; rw [HTi.out, HF.out] at h1; exact h1), rfl⟩)) : DecIs s 11)
      have HP1 : Hid (DecPost s w (.returned (.tuple #[.agg zeroT, .int .i64 11])) V) := hp
      have HW1 : Hid (V = w8.setCells w.heap.size 0 zeroT.toList) := hV
      have HL1 : Hid ((loadVar 26 ⟨w.heap.size, 0, none⟩).run Try.prog V = .ok (.agg zeroT) V) := hl
      clear hp hV hl
      go_wp2_with (first | (refine wpList_store_mid rfl 26 _ _ rfl w.heap.size 0 zeroT rfl rfl hT8 info_tables (by simp [zeroT, Value.oneCell']) ?_; rw [← HW1.out]))
      refine bodyPost_ret (v := .tuple #[.agg zeroT, .int .i64 11]) (eResults_load2 Try.results72 rfl HL1.out rfl) rfl HP1.out
    have hFs' : s = F := hFs.symm
    subst hFs'
    have hrg : w8.rangeAt tb 0 [.int .i64 T.rules, .slice A.a1 T.ncl A.c1, .slice A.a2 T.nlb A.c2, .slice A.a3 T.nbs A.c3, .slice A.a4 T.ndf A.c4, .slice A.a5 T.nck A.c5, .slice A.a6 T.nnx A.c6] := fun j v hv => by
      rw [Nat.zero_add]
      rcases j with _ | _ | _ | _ | _ | _ | _ | j
      · cases hv; exact hA8.c0
      · cases hv; exact hA8.c1
      · cases hv; exact hA8.c2
      · cases hv; exact hA8.c3
      · cases hv; exact hA8.c4
      · cases hv; exact hA8.c5
      · cases hv; exact hA8.c6
      · cases hv
    go_wp2_with (first | (refine wpList_load_mid rfl 26 _ rfl tb 0 rfl [.int .i64 T.rules, .slice A.a1 T.ncl A.c1, .slice A.a2 T.nlb A.c2, .slice A.a3 T.nbs A.c3, .slice A.a4 T.ndf A.c4, .slice A.a5 T.nck A.c5, .slice A.a6 T.nnx A.c6] _ hrg Try.underlying26 rfl info_tables ?_) | (refine wpList_store_mid rfl 26 _ _ rfl w.heap.size 0 #[.int .i64 T.rules, .slice A.a1 T.ncl A.c1, .slice A.a2 T.nlb A.c2, .slice A.a3 T.nbs A.c3, .slice A.a4 T.ndf A.c4, .slice A.a5 T.nck A.c5, .slice A.a6 T.nnx A.c6] rfl rfl hT8 info_tables (by simp [Value.oneCell']) ?_))
    have hG := setCells_grown w.heap.size [.int .i64 T.rules, .slice A.a1 T.ncl A.c1, .slice A.a2 T.nlb A.c2, .slice A.a3 T.nbs A.c3, .slice A.a4 T.ndf A.c4, .slice A.a5 T.nck A.c5, .slice A.a6 T.nnx A.c6] 0 w8
    have hr' := World.rangeAt_setCells_same w8 w.heap.size 0 [.int .i64 T.rules, .slice A.a1 T.ncl A.c1, .slice A.a2 T.nlb A.c2, .slice A.a3 T.nbs A.c3, .slice A.a4 T.ndf A.c4, .slice A.a5 T.nck A.c5, .slice A.a6 T.nnx A.c6] hT8
    have hfin := run_loadVar_mid (P := Try.prog) (w8.setCells w.heap.size 0 [.int .i64 T.rules, .slice A.a1 T.ncl A.c1, .slice A.a2 T.nlb A.c2, .slice A.a3 T.nbs A.c3, .slice A.a4 T.ndf A.c4, .slice A.a5 T.nck A.c5, .slice A.a6 T.nnx A.c6]) w.heap.size 0 26 [.int .i64 T.rules, .slice A.a1 T.ncl A.c1, .slice A.a2 T.nlb A.c2, .slice A.a3 T.nbs A.c3, .slice A.a4 T.ndf A.c4, .slice A.a5 T.nck A.c5, .slice A.a6 T.nnx A.c6] _ hr' Try.underlying26 rfl info_tables
    refine bodyPost_ret (v := .tuple #[.agg #[.int .i64 T.rules, .slice A.a1 T.ncl A.c1, .slice A.a2 T.nlb A.c2, .slice A.a3 T.nbs A.c3, .slice A.a4 T.ndf A.c4, .slice A.a5 T.nck A.c5, .slice A.a6 T.nnx A.c6], .int .i64 0]) (eResults_load2 Try.results72 rfl hfin rfl) rfl ?_
    generalize w8.setCells w.heap.size 0 [.int .i64 T.rules, .slice A.a1 T.ncl A.c1, .slice A.a2 T.nlb A.c2, .slice A.a3 T.nbs A.c3, .slice A.a4 T.ndf A.c4, .slice A.a5 T.nck A.c5, .slice A.a6 T.nnx A.c6] = W9 at *
    refine ⟨hB8.grown hG hB8.size (fun q hq => by cases hq; exact Nat.le_refl _), Or.inr ⟨⟨Hm.out, HFt.out, Hsum.out, ?_, ?_⟩, A, ?_, ?_⟩⟩
    · rw [HTi.out]; exact HS.out
    · rw [HTi.out]; exact HF.out
    · rw [HTi.out]; rfl
    · rw [HTi.out]; exact HI8.out W9 hG
  · have HS : Hid (¬ Snd T) := hS
    clear hS
    obtain ⟨V, hV, hl, hp⟩ := dec_out hT8 hB8 (Or.inr (Or.inr (Or.inr ⟨Hm.out, HFt.out, Hsum.out, fun h => HS.out (by have h1 := h.1; rw [HTi.out] at h1; exact h1), rfl⟩)) : DecIs s 11)
    have HP1 : Hid (DecPost s w (.returned (.tuple #[.agg zeroT, .int .i64 11])) V) := hp
    have HW1 : Hid (V = w8.setCells w.heap.size 0 zeroT.toList) := hV
    have HL1 : Hid ((loadVar 26 ⟨w.heap.size, 0, none⟩).run Try.prog V = .ok (.agg zeroT) V) := hl
    clear hp hV hl
    go_wp2_with (first | (refine wpList_store_mid rfl 26 _ _ rfl w.heap.size 0 zeroT rfl rfl hT8 info_tables (by simp [zeroT, Value.oneCell']) ?_; rw [← HW1.out]))
    refine bodyPost_ret (v := .tuple #[.agg zeroT, .int .i64 11]) (eResults_load2 Try.results72 rfl HL1.out rfl) rfl HP1.out
end Go.Proofs.Ytoaaklhpmhjhkaa
