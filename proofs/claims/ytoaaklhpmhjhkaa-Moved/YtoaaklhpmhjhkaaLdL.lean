/-
  The reference's Load of a file whose head fits.
-/
import Derived.Test.YtoaaklhpmhjhkaaLdK
namespace Go.Proofs.Ytoaaklhpmhjhkaa
open Go.RowKit

/-- Cells of a block that may be written over. -/
def TC (t : Nat) (L : List Value) (w : World) : Prop := ∀ k v, L[k]? = some v → w.cell? ⟨t, k, none⟩ = some v ∧ w.frozen? ⟨t, k, none⟩ = false
theorem TC.block {t : Nat} {L : List Value} {w w' : World} (h : TC t L w) (hb : w'.heap[t]? = w.heap[t]?) : TC t L w' := fun k v hv => by
  rw [World.cell?_of_block (w := w) (a := ⟨t, k, none⟩) hb, World.frozen?_of_block (w := w) (a := ⟨t, k, none⟩) hb]; exact h k v hv
theorem TC.lt {t : Nat} {v : Value} {L : List Value} {w : World} (h : TC t (v :: L) w) : t < w.heap.size := World.block_lt_of_cell? w _ (h 0 v rfl).1
theorem TC.below {t : Nat} {v : Value} {L : List Value} {w w' : World} (h : TC t (v :: L) w) (hW : Below w.heap.size w w') : TC t (v :: L) w' := h.block (hW.block t h.lt)
theorem TC.set {t : Nat} {L : List Value} {w : World} (h : TC t L w) (q : Nat) (hq : q < L.length) (u : Value) : TC t (L.set q u) (w.setCell ⟨t, q, none⟩ u) := fun k v hv => by
  rw [World.frozen?_setCell]
  by_cases e : k = q
  · subst e
    rw [List.getElem?_set_self hq] at hv
    obtain ⟨h1, h2⟩ := h k L[k] (List.getElem?_eq_getElem hq)
    cases hv
    exact ⟨World.cell?_setCell_same w ⟨t, k, none⟩ u (by rw [h1]), h2⟩
  · rw [List.getElem?_set_ne (fun x => e x.symm)] at hv
    obtain ⟨h1, h2⟩ := h k v hv
    exact ⟨by rw [World.cell?_setCell_other _ _ _ _ (by intro he; cases he; exact e rfl)]; exact h1, h2⟩
theorem TC.range {t : Nat} {L : List Value} {w : World} (h : TC t L w) : w.rangeAt t 0 L := fun k v hv => by rw [Nat.zero_add]; exact (h k v hv).1
theorem TC.boxed (w : World) (L : List Value) (ty : TypeId) : TC w.heap.size L (w.alloc (.cells L.toArray ty)) := fun k v hv => by
  refine ⟨by rw [World.cell?_alloc_new]; simpa using hv, ?_⟩
  go_simp
theorem TC.laid {t : Nat} {L : List Value} {w : World} (hth : w.there t 0 L.length) : TC t L (w.setCells t 0 L) := fun k v hv => by
  have h1 := World.rangeAt_setCells_same w t 0 L hth k v hv
  have hk : k < L.length := by
    rcases Nat.lt_or_ge k L.length with h | h
    · exact h
    · rw [List.getElem?_eq_none h] at hv; cases hv
  have h2 := (hth k hk).2
  rw [Nat.zero_add] at h1 h2
  refine ⟨h1, ?_⟩
  rw [World.frozen?_setCells]; exact h2

theorem NRow.grownNe {g n b : Nat} {f : Nat → Int} {w w' : World} (h : NRow g f n w) (hg : w.grownBy w' (some b)) (hne : g ≠ b) : NRow g f n w' := by
  rcases Nat.eq_zero_or_pos n with h0 | h0
  · intro k hk; omega
  · exact h.blk (hg.block g (h.lt h0) (fun e => hne (by first | exact Option.some.inj e | exact (Option.some.inj e).symm)))
theorem NRow.keepF {g n B : Nat} {f : Nat → Int} {w w' : World} (h : NRow g f n w) (hk : ∀ q, B ≤ q → q < w.heap.size → w'.heap[q]? = w.heap[q]?) (hg : B ≤ g) : NRow g f n w' := by
  rcases Nat.eq_zero_or_pos n with h0 | h0
  · intro k hk; omega
  · exact h.blk (hk g hg (h.lt h0))
/-- What the reference's Load has at hand: its result (at w's end), the tables at t, lists that are there. -/
structure LS (w : World) (t : Nat) (L : List Value) (R : List (Nat × (Nat → Int) × Nat)) (W : World) : Prop where
  T : W.there w.heap.size 0 7
  B : Below w.heap.size w W
  C : TC t L W
  lt : w.heap.size < t
  tl : t < W.heap.size
  N : ∀ x ∈ R, t < x.1 ∧ NRow x.1 x.2.1 x.2.2 W
theorem LS.call {w : World} {t : Nat} {L : List Value} {R : List (Nat × (Nat → Int) × Nat)} {W W' : World} (h : LS w t L R W) (hW : Below W.heap.size W W') : LS w t L R W' :=
  ⟨there_below h.T (by omega) hW, h.B.trans (hW.mono h.B.size), h.C.block (hW.block t h.tl), h.lt, Nat.lt_of_lt_of_le h.tl hW.size, fun x hx => ⟨(h.N x hx).1, (h.N x hx).2.below hW⟩⟩
theorem LS.row {w : World} {t g n : Nat} {f : Nat → Int} {L : List Value} {R : List (Nat × (Nat → Int) × Nat)} {W : World} (h : LS w t L R W) (hg : t < g) (hN : NRow g f n W) : LS w t L ((g, f, n) :: R) W :=
  ⟨h.T, h.B, h.C, h.lt, h.tl, fun x hx => by
    rcases List.mem_cons.1 hx with rfl | hx
    · exact ⟨hg, hN⟩
    · exact h.N x hx⟩
theorem LS.set {w : World} {t : Nat} {L : List Value} {R : List (Nat × (Nat → Int) × Nat)} {W : World} (h : LS w t L R W) (q : Nat) (hq : q < L.length) (u : Value) : LS w t (L.set q u) R (W.setCell ⟨t, q, none⟩ u) := by
  have hlt := h.lt
  have hb : ∀ k, k ≠ t → (W.setCell ⟨t, q, none⟩ u).heap[k]? = W.heap[k]? := fun k hk => Below.heap_setCell W ⟨t, q, none⟩ u k (fun e => hk e)
  have hs : (W.setCell ⟨t, q, none⟩ u).heap.size = W.heap.size := by simp [World.setCell]
  refine ⟨fun j hj => ?_, h.B.setCell (p := ⟨t, q, none⟩) (Nat.le_of_lt hlt) _, h.C.set q hq u, hlt, by rw [hs]; exact h.tl, fun x hx => ⟨(h.N x hx).1, (h.N x hx).2.blk (hb x.1 (by have := (h.N x hx).1; omega))⟩⟩
  rw [World.cell?_of_block (w := W) (a := ⟨w.heap.size, 0 + j, none⟩) (hb w.heap.size (by omega)), World.frozen?_of_block (w := W) (a := ⟨w.heap.size, 0 + j, none⟩) (hb w.heap.size (by omega))]
  exact h.T j hj
theorem LS.put {w : World} {t g j : Nat} {L : List Value} {R : List (Nat × (Nat → Int) × Nat)} {W : World} (h : LS w t L R W) (hg : t < g) (hR : ∀ x ∈ R, x.2.2 = 0 ∨ x.1 < g) (u : Value) : LS w t L R (W.setCell ⟨g, j, none⟩ u) := by
  have hlt := h.lt
  have hb : ∀ k, k ≠ g → (W.setCell ⟨g, j, none⟩ u).heap[k]? = W.heap[k]? := fun k hk => Below.heap_setCell W ⟨g, j, none⟩ u k (fun e => hk e)
  have hs : (W.setCell ⟨g, j, none⟩ u).heap.size = W.heap.size := by simp [World.setCell]
  refine ⟨fun j hj => ?_, h.B.setCell (p := ⟨g, j, none⟩) (show w.heap.size ≤ g by omega) _, h.C.block (hb t (by omega)), hlt, by rw [hs]; exact h.tl, fun x hx => ⟨(h.N x hx).1, ?_⟩⟩
  · rw [World.cell?_of_block (w := W) (a := ⟨w.heap.size, 0 + j, none⟩) (hb w.heap.size (by omega)), World.frozen?_of_block (w := W) (a := ⟨w.heap.size, 0 + j, none⟩) (hb w.heap.size (by omega))]
    exact h.T j hj
  · rcases hR x hx with h0 | h1
    · intro k hk; omega
    · exact (h.N x hx).2.blk (hb x.1 (by omega))
theorem LS.draw {w : World} {t : Nat} {L : List Value} {R : List (Nat × (Nat → Int) × Nat)} {W : World} (h : LS w t L R W) : LS w t L R W.drew :=
  ⟨fun j hj => h.T j hj, h.B.drew, fun k v hv => h.C k v hv, h.lt, h.tl, fun x hx => ⟨(h.N x hx).1, fun k hk => (h.N x hx).2 k hk⟩⟩

set_option maxRecDepth 100000 in
set_option maxHeartbeats 4000000 in
theorem refLoad_fits (s : ByteArray) (w : World) (hm : magicB s = true) (hF : Fits s) : Calls Try.prog 43 #[.string s] w (DecPost s w) := by
  have hz := zero_tables
  obtain ⟨W0, hW0⟩ : ∃ W, W = w.alloc (.cells #[.int .i64 0, .slice none 0 0, .slice none 0 0, .slice none 0 0, .slice none 0 0, .slice none 0 0, .slice none 0 0] 26) := ⟨_, rfl⟩
  have hT0 : W0.drew.there w.heap.size 0 7 := by rw [hW0]; exact zeroT_there w _
  have hB0 : Below w.heap.size w W0.drew := by rw [hW0]; exact (bel_box _ _).drew
  have hS0 : w.heap.size < W0.drew.heap.size := by rw [hW0]; simp [World.drew]
  have Hm : Hid (magicB s = true) := hm
  have HFt : Hid (Fits s) := hF
  unfold magicB at hm
  have h10 : 10 ≤ s.size := hF.1
  have h4 : 4 ≤ s.size := by omega
  have h4' : ¬ (s.size : Int) < 4 := by omega
  have h4i : (4 : Int) ≤ (s.size : Int) := by omega
  have hq : ((s.extract 0 4).toList == [77, 85, 78, 49]) = true := by
    rw [decide_eq_true h4] at hm; simp only [Bool.true_and] at hm; exact hm
  clear hm
  have h10' : ¬ (s.size : Int) < 10 := by omega
  have e4 := num1 s 4 (by omega)
  have e6 := num1 s 6 (by omega)
  have e7 := num2 s 7 (by omega)
  have e9 := num1 s 9 (by omega)
  have b4 := s[4].toNat_lt
  have b6 := s[6].toNat_lt
  have b7 := s[7].toNat_lt
  have b8 := s[8].toNat_lt
  have b9 := s[9].toNat_lt
  obtain ⟨r, i4⟩ : ∃ r, s[4].toNat = r := ⟨_, rfl⟩
  obtain ⟨st, i6⟩ : ∃ r, s[6].toNat = r := ⟨_, rfl⟩
  obtain ⟨wd, i9⟩ : ∃ r, s[9].toNat = r := ⟨_, rfl⟩
  obtain ⟨x7, i71⟩ : ∃ r, s[7].toNat = r := ⟨_, rfl⟩
  obtain ⟨x8, i81⟩ : ∃ r, s[8].toNat = r := ⟨_, rfl⟩
  obtain ⟨ce, i7⟩ : ∃ r : Nat, (x7 : Int) * (256 : Int) + (x8 : Int) = (r : Int) := ⟨x7 * 256 + x8, by omega⟩
  obtain ⟨_, hok, hsize⟩ := hF
  simp only [Nat.reduceAdd] at e7
  rw [i71] at b7; rw [i81] at b8
  rw [i4] at e4; rw [i6] at e6; rw [i71, i81, i7] at e7; rw [i9] at e9
  have HTi : Hid (fileT s = rdT s st ce wd) := by
    show _ = _
    unfold fileT; rw [e6, e7, e9]; simp only [Int.toNat_natCast]
  have Hr : Hid (num s 4 1 = (r : Int)) := e4
  rw [e4, e6, e7, e9] at hok
  rw [e6, e7, e9] at hsize
  simp only [Int.toNat_natCast] at hsize
  clear e4 e6 e7 e9
  obtain ⟨⟨c1, c2⟩, ⟨c3, c4⟩, c5, c6⟩ := hok
  have d1 : ¬ (r : Int) < 1 := by omega
  have d2 : ¬ (8 : Int) < (r : Int) := by omega
  have d3 : ¬ (st : Int) < 1 := by omega
  have d4 : ¬ (96 : Int) < (st : Int) := by omega
  have d5 : ¬ (24576 : Int) < (ce : Int) := by omega
  have d6 : ¬ (wd : Int) < 1 := by omega
  have d7 : ¬ (2 : Int) < (wd : Int) := by omega
  have hwd : wd = 1 ∨ wd = 2 := by omega
  obtain ⟨m, hmm⟩ : ∃ m, m = st * wd := ⟨_, rfl⟩
  have im : (st : Int) * (wd : Int) = (m : Int) := by rw [hmm]; simp
  have bm : m ≤ 96 * 2 := by rw [hmm]; exact Nat.mul_le_mul (by omega) (by omega)
  have Hmm : Hid (m = st * wd) := hmm
  rw [Nat.mul_add, ← hmm] at hsize
  clear hmm
  have hq1 : ((s.size : Int) == 266 + (st : Int) + (m : Int) + (st : Int) + 2 * (ce : Int) + 4) = true := by
    have : (s.size : Int) = 266 + (st : Int) + (m : Int) + (st : Int) + 2 * (ce : Int) + 4 := by omega
    simpa using this
  have q7 : (7 : Int) < (s.size : Int) := by omega
  have q8 : (8 : Int) < (s.size : Int) := by omega
  have n7 : 7 < s.size := by omega
  have n8 : 8 < s.size := by omega
  obtain ⟨n, hn⟩ : ∃ n, s.size = n + 4 := ⟨s.size - 4, by omega⟩
  have hs2 : s.size ≤ 60000 := by omega
  have bn : n ≤ 60000 := by omega
  have i1 : (s.size : Int) - 4 = (n : Int) := by omega
  have i2 : (n : Int) ≤ (s.size : Int) := by omega
  obtain ⟨z, hz2⟩ : ∃ z : ByteArray, z = ⟨(sumL (s.extract 0 n).data.toList).toArray⟩ := ⟨_, rfl⟩
  have HS : Hid (∀ W, Calls Try.prog 70 #[.string (s.extract 0 n)] W fun e w' => e = .returned (.string z) ∧ Below W.heap.size W w') := fun W => by rw [hz2]; exact refSum_any (s.extract 0 n) W (by simp; omega)
  have Hsb : Hid (sumB s = (z.toList == (s.extract n s.size).toList)) := by
    show _ = _
    rw [sumB, show s.size - 4 = n by omega, hz2, Bool.beq_comm]
  clear hz2
  have Hn : Hid (s.size = n + 4) := hn
  have Hsz : Hid (s.size = 266 + (m + st * 2) + ce * 2 + 4) := hsize
  clear hn hsize
  go_enter Try.func43, Try.ntmps43
  go_wp2_with fail
  go_region
  go_wp2_with fail
  rw [← hW0]
  clear hW0
  clear hq c1 c2 c3 c4 c5 c6 d1 d2 d3 d6 d7 hq1 i6 i9 i71 i81 i7
  clear b6 b7 b8 b9 q7 q8 n7 n8 h4' h4i h10'
  refine (HS.out _).mono ?_
  rintro e w1 ⟨rfl, hW1⟩
  have hT1 := there_below hT0 (by omega) hW1
  have hB1 := hB0.trans (hW1.mono (Nat.le_of_lt hS0))
  have hS1 : w.heap.size < w1.heap.size := Nat.lt_of_lt_of_le hS0 hW1.size
  clear HS hT0 hB0 hW1 hS0
  by_cases hsum : sumB s = true
  case neg =>
    have hq2 : (z.toList == (s.extract n s.size).toList) = false := by rw [← Hsb.out]; simpa using hsum
    obtain ⟨V, hV, hl, hp⟩ := dec_out hT1 hB1 (Or.inr (Or.inr (Or.inl ⟨Hm.out, HFt.out, by simpa using hsum, rfl⟩)) : DecIs s 14)
    have HP1 : Hid (DecPost s w (.returned (.tuple #[.agg zeroT, .int .i64 14])) V) := hp
    have HW1 : Hid (V = w1.setCells w.heap.size 0 zeroT.toList) := hV
    have HL1 : Hid ((loadVar 26 ⟨w.heap.size, 0, none⟩).run Try.prog V = .ok (.agg zeroT) V) := hl
    clear hp hV hl
    go_wp2_with (first | (refine wpList_store_mid rfl 26 _ _ rfl w.heap.size 0 zeroT rfl rfl hT1 info_tables (by simp [zeroT, Value.oneCell']) ?_; rw [← HW1.out]))
    refine bodyPost_ret (v := .tuple #[.agg zeroT, .int .i64 14]) (eResults_load2 Try.results43 rfl HL1.out rfl) rfl HP1.out
  have hq2 : (z.toList == (s.extract n s.size).toList) = true := by rw [← Hsb.out]; exact hsum
  have Hsum : Hid (sumB s = true) := hsum
  clear hsum Hsb
  obtain ⟨W2, hW2⟩ : ∃ W, W = w1.alloc (.cells #[.int .i64 r, .slice none 0 0, .slice none 0 0, .slice none 0 0, .slice none 0 0, .slice none 0 0, .slice none 0 0] 26) := ⟨_, rfl⟩
  have S2 : LS w w1.heap.size [.int .i64 r, .slice none 0 0, .slice none 0 0, .slice none 0 0, .slice none 0 0, .slice none 0 0, .slice none 0 0] [] W2 := by
    have hx : Below w1.heap.size w1 W2 := by rw [hW2]; exact bel_box w1 _
    refine ⟨there_below hT1 (by omega) hx, hB1.trans (hx.mono hB1.size), ?_, hS1, ?_, fun x hx => by cases hx⟩
    · rw [hW2]; exact TC.boxed w1 [.int .i64 r, .slice none 0 0, .slice none 0 0, .slice none 0 0, .slice none 0 0, .slice none 0 0, .slice none 0 0] _
    · rw [hW2]; simp
  have HW2 : Hid (W2 = w1.alloc (.cells #[.int .i64 r, .slice none 0 0, .slice none 0 0, .slice none 0 0, .slice none 0 0, .slice none 0 0, .slice none 0 0] 26)) := hW2
  clear hW2 hT1 hB1
  go_wp2_with fail
  rw [← HW2.out]
  clear HW2 hS1 hq2 i1 i2 i4 b4 h10
  have hce : ce ≤ 24576 := by omega
  have hst : st ≤ 96 := by omega
  obtain ⟨p1, hp1⟩ : ∃ p, p = 266 + st := ⟨_, rfl⟩
  obtain ⟨p2, hp2⟩ : ∃ p, p = p1 + m := ⟨_, rfl⟩
  obtain ⟨p3, hp3⟩ : ∃ p, p = p2 + st := ⟨_, rfl⟩
  obtain ⟨c2, hc2⟩ : ∃ p, p = 2 * ce := ⟨_, rfl⟩
  have j1 : (266 : Int) + (st : Int) = (p1 : Int) := by omega
  have j2 : (p1 : Int) + (m : Int) = (p2 : Int) := by omega
  have j3 : (p2 : Int) + (st : Int) = (p3 : Int) := by omega
  have j4 : (2 : Int) * (ce : Int) = (c2 : Int) := by omega
  have y1 : p1 ≤ 1000 := by omega
  have y2 : p2 ≤ 1000 := by omega
  have y3 : p3 ≤ 1000 := by omega
  have y4 : c2 ≤ 60000 := by omega
  have Hp : Hid (p1 = 266 + st ∧ p2 = 266 + st + m ∧ p3 = 266 + st + m + st ∧ c2 = 2 * ce) := ⟨hp1, by omega, by omega, hc2⟩
  clear hp1 hp2 hp3 hc2 d4 d5
  generalize w1.heap.size = t at *
  refine Calls.mono (numbers_any s 10 256 1 0 W2 (by omega) (Or.inl rfl) (by omega) (by have := Hsz.out; omega)) ?_
  rintro e v1 ⟨g1, rfl, hg1, N1, B1⟩
  have S3 := (S2.call B1).row (Nat.lt_of_lt_of_le S2.tl hg1) N1
  obtain ⟨k1, k1f⟩ := S3.C 1 _ rfl
  clear S2 N1 B1 hg1
  go_wp2_with fail
  clear k1 k1f
  have S4 := S3.set 1 (by simp) (.slice (some ⟨g1, 0, none⟩) 256 256)
  generalize v1.setCell ⟨t, 1, none⟩ (.slice (some ⟨g1, 0, none⟩) 256 256) = V1 at *
  clear S3
  refine Calls.mono (numbers_any s 266 st 1 1 V1 (by omega) (Or.inl rfl) (by omega) (by have := Hsz.out; omega)) ?_
  rintro e v2 ⟨g2, rfl, hg2, N2, B2⟩
  have S5 := (S4.call B2).row (Nat.lt_of_lt_of_le S4.tl hg2) N2
  obtain ⟨k1, k1f⟩ := S5.C 2 _ rfl
  clear S4 N2 B2 hg2
  go_wp2_with fail
  clear k1 k1f
  have S6 := S5.set 2 (by simp) (.slice (some ⟨g2, 0, none⟩) st st)
  generalize v2.setCell ⟨t, 2, none⟩ (.slice (some ⟨g2, 0, none⟩) st st) = V2 at *
  clear S5
  refine Calls.mono (numbers_any s p1 st wd 0 V2 (by omega) hwd (by omega) (by have := Hsz.out; have := Hp.out; rw [← Hmm.out]; omega)) ?_
  rintro e v3 ⟨g3, rfl, hg3, N3, B3⟩
  have S7 := (S6.call B3).row (Nat.lt_of_lt_of_le S6.tl hg3) N3
  obtain ⟨k1, k1f⟩ := S7.C 3 _ rfl
  clear S6 N3 B3 hg3
  go_wp2_with fail
  clear k1 k1f
  have S8 := S7.set 3 (by simp) (.slice (some ⟨g3, 0, none⟩) st st)
  generalize v3.setCell ⟨t, 3, none⟩ (.slice (some ⟨g3, 0, none⟩) st st) = V3 at *
  clear S7
  refine Calls.mono (numbers_any s p2 st 1 1 V3 (by omega) (Or.inl rfl) (by omega) (by have := Hsz.out; have := Hp.out; omega)) ?_
  rintro e v4 ⟨g4, rfl, hg4, N4, B4⟩
  have S9 := (S8.call B4).row (Nat.lt_of_lt_of_le S8.tl hg4) N4
  obtain ⟨k1, k1f⟩ := S9.C 4 _ rfl
  clear S8 N4 B4 hg4
  go_wp2_with fail
  clear k1 k1f
  have S10 := S9.set 4 (by simp) (.slice (some ⟨g4, 0, none⟩) st st)
  generalize v4.setCell ⟨t, 4, none⟩ (.slice (some ⟨g4, 0, none⟩) st st) = V4 at *
  clear S9
  refine Calls.mono (numbers_any s p3 c2 1 1 V4 (by omega) (Or.inl rfl) (by omega) (by have := Hsz.out; have := Hp.out; omega)) ?_
  rintro e v5 ⟨g5, rfl, hg5, N5, B5⟩
  have S11 := (S10.call B5).row (Nat.lt_of_lt_of_le S10.tl hg5) N5
  clear S10 N5 B5 hg5
  simp only [List.set] at S11
  have hR : ∀ x ∈ [(g5, lst s p3 1 1, c2), (g4, lst s p2 1 1, st), (g3, lst s p1 wd 0, st), (g2, lst s 266 1 1, st), (g1, lst s 10 1 0, 256)], x.2.2 = 0 ∨ x.1 < v5.heap.size := fun x hx => by
    rcases Nat.eq_zero_or_pos x.2.2 with h | h
    · exact Or.inl h
    · exact Or.inr ((S11.N x hx).2.lt h)
  have hmk : ∀ W, (Instr.makeSlice 24 (.int .i64 (ce : Int)) (.int .i64 (ce : Int))).run Try.prog W = .ok (.slice (some ⟨W.heap.size, 0, none⟩) ce ce) (W.alloc (.cells (blankI ce) 3)) := fun W => run_blankI W ce (by omega)
  have Hmk : Hid (∀ W, (Instr.makeSlice 24 (.int .i64 (ce : Int)) (.int .i64 (ce : Int))).run Try.prog W = .ok (.slice (some ⟨W.heap.size, 0, none⟩) ce ce) (W.alloc (.cells (blankI ce) 3))) := hmk
  clear hmk
  have S12 := S11.call (bel_box v5 (.cells (blankI ce) 3))
  have M6 := NRow.blank v5 ce 3
  have hsz6 : (v5.alloc (.cells (blankI ce) 3)).heap.size = v5.heap.size + 1 := by simp
  have t5 : t < v5.heap.size := S11.tl
  obtain ⟨k5, k5f⟩ := S12.C 5 _ rfl
  have S13 := S12.set 5 (by simp) (.slice (some ⟨v5.heap.size, 0, none⟩) ce ce)
  have M6' := M6.blk (Below.heap_setCell (v5.alloc (.cells (blankI ce) 3)) ⟨t, 5, none⟩ (.slice (some ⟨v5.heap.size, 0, none⟩) ce ce) v5.heap.size (by simp; omega))
  have hsz7 : ((v5.alloc (.cells (blankI ce) 3)).setCell ⟨t, 5, none⟩ (.slice (some ⟨v5.heap.size, 0, none⟩) ce ce)).heap.size = v5.heap.size + 1 := by simp [World.setCell]
  simp only [List.set] at S13
  obtain ⟨V6, hV6⟩ : ∃ V, V = v5.alloc (.cells (blankI ce) 3) := ⟨_, rfl⟩
  obtain ⟨V7, hV7⟩ : ∃ V, V = V6.setCell ⟨t, 5, none⟩ (.slice (some ⟨v5.heap.size, 0, none⟩) ce ce) := ⟨_, rfl⟩
  rw [← hV6] at S13 M6' hsz7 k5 k5f
  rw [← hV7] at S13 M6' hsz7
  have S14 := S13.call (bel_box V7 (.cells (blankI ce) 3))
  have M6s := M6'.below (bel_box V7 (.cells (blankI ce) 3))
  have M7 := NRow.blank V7 ce 3
  obtain ⟨k6, k6f⟩ := S14.C 6 _ rfl
  have S15 := S14.set 6 (by simp) (.slice (some ⟨v5.heap.size + 1, 0, none⟩) ce ce)
  simp only [List.set] at S15
  rw [hsz7] at M7
  obtain ⟨V8, hV8⟩ : ∃ V, V = V7.alloc (.cells (blankI ce) 3) := ⟨_, rfl⟩
  obtain ⟨V9, hV9⟩ : ∃ V, V = V8.setCell ⟨t, 6, none⟩ (.slice (some ⟨v5.heap.size + 1, 0, none⟩) ce ce) := ⟨_, rfl⟩
  rw [← hV8] at S15 M6s M7 k6 k6f
  have M6t := M6s.blk (Below.heap_setCell V8 ⟨t, 6, none⟩ (.slice (some ⟨v5.heap.size + 1, 0, none⟩) ce ce) v5.heap.size (by simp; omega))
  have M7t := M7.blk (Below.heap_setCell V8 ⟨t, 6, none⟩ (.slice (some ⟨v5.heap.size + 1, 0, none⟩) ce ce) (v5.heap.size + 1) (by simp; omega))
  rw [← hV9] at S15 M6t M7t
  have hmk1 : (Instr.makeSlice 24 (.int .i64 (ce : Int)) (.int .i64 (ce : Int))).run Try.prog v5 = .ok (.slice (some ⟨v5.heap.size, 0, none⟩) ce ce) V6 := by rw [hV6]; exact Hmk.out v5
  have hmk2 : (Instr.makeSlice 24 (.int .i64 (ce : Int)) (.int .i64 (ce : Int))).run Try.prog V7 = .ok (.slice (some ⟨v5.heap.size + 1, 0, none⟩) ce ce) V8 := by rw [hV8, ← hsz7]; exact Hmk.out V7
  have HV7 : Hid (V7 = V6.setCell ⟨t, 5, none⟩ (.slice (some ⟨v5.heap.size, 0, none⟩) ce ce)) := hV7
  have HV9 : Hid (V9 = V8.setCell ⟨t, 6, none⟩ (.slice (some ⟨v5.heap.size + 1, 0, none⟩) ce ce)) := hV9
  have hs7 : V6.setCell ⟨t, 5, none⟩ (.slice (some ⟨v5.heap.size, 0, none⟩) ce ce) = V7 := hV7.symm
  have hs9 : V8.setCell ⟨t, 6, none⟩ (.slice (some ⟨v5.heap.size + 1, 0, none⟩) ce ce) = V9 := hV9.symm
  clear Hmk S11 S12 S13 S14 M6 M6' M6s M7 hsz6 hsz7 hV6 hV7 hV8 hV9
  generalize v5.heap.size = g at *
  go_wp2_with fail
  clear hmk1 hmk2 HV7 HV9 hs7 hs9 k5 k5f k6 k6f hz j1 j2 j3 j4 im bm
  have HR : Hid (∀ x ∈ [(g5, lst s p3 1 1, c2), (g4, lst s p2 1 1, st), (g3, lst s p1 wd 0, st), (g2, lst s 266 1 1, st), (g1, lst s 10 1 0, 256)], x.2.2 = 0 ∨ x.1 < g) := hR
  clear hR
  obtain ⟨ck, hck⟩ : ∃ ck : Nat → Int, ck = fun k => lst s p3 1 1 (2 * k) := ⟨_, rfl⟩
  obtain ⟨nx, hnx⟩ : ∃ nx : Nat → Int, nx = fun k => lst s p3 1 1 (2 * k + 1) := ⟨_, rfl⟩
  have Hck : Hid (ck = fun k => lst s p3 1 1 (2 * k)) := hck
  have Hnx : Hid (nx = fun k => lst s p3 1 1 (2 * k + 1)) := hnx
  clear hck hnx
  obtain ⟨R, hRR⟩ : ∃ R, R = [(g5, lst s p3 1 1, c2), (g4, lst s p2 1 1, st), (g3, lst s p1 wd 0, st), (g2, lst s 266 1 1, st), (g1, lst s 10 1 0, 256)] := ⟨_, rfl⟩
  rw [← hRR] at HR S15
  have HRR : Hid (R = [(g5, lst s p3 1 1, c2), (g4, lst s p2 1 1, st), (g3, lst s p1 wd 0, st), (g2, lst s 266 1 1, st), (g1, lst s 10 1 0, 256)]) := hRR
  clear hRR
  obtain ⟨A, hA⟩ : ∃ A : TbA, A = ⟨some ⟨g1, 0, none⟩, 256, some ⟨g2, 0, none⟩, st, some ⟨g3, 0, none⟩, st, some ⟨g4, 0, none⟩, st, some ⟨g, 0, none⟩, ce, some ⟨g + 1, 0, none⟩, ce⟩ := ⟨_, rfl⟩
  have hTz : TbSz (rdT s st ce wd) := by
    refine ⟨?_, ?_, ?_, ?_, ?_, ?_⟩ <;> (show _ + 3 ≤ _; simp only [rdT]; omega)
  have hAc : A.cells (rdT s st ce wd) = #[.int .i64 r, .slice (some ⟨g1, 0, none⟩) 256 256, .slice (some ⟨g2, 0, none⟩) st st, .slice (some ⟨g3, 0, none⟩) st st, .slice (some ⟨g4, 0, none⟩) st st, .slice (some ⟨g, 0, none⟩) ce ce, .slice (some ⟨g + 1, 0, none⟩) ce ce] := by
    rw [hA]; unfold TbA.cells; rw [show (rdT s st ce wd).rules = num s 4 1 from rfl, Hr.out]; rfl
  have HIs : Hid (∀ W, (∀ x ∈ R, NRow x.1 x.2.1 x.2.2 W) → NRow g ck ce W → NRow (g + 1) nx ce W → TbIn (rdT s st ce wd) A W) := fun W hN h6 h7 => by
    obtain ⟨q1, q2, q3, q4⟩ := Hp.out
    have hm := Hmm.out
    rw [HRR.out] at hN
    have x1 := hN (g1, lst s 10 1 0, 256) (by simp)
    have x2 := hN (g2, lst s 266 1 1, st) (by simp)
    have x3 := hN (g3, lst s p1 wd 0, st) (by simp)
    have x4 := hN (g4, lst s p2 1 1, st) (by simp)
    have z3 : p1 = 266 + st := by omega
    have z4 : p2 = 266 + st + st * wd := by rw [q2, hm]
    have z5 : p3 = 266 + st + st * wd + st := by rw [q3, hm]
    rw [hA]
    refine ⟨x1.il (Nat.le_refl _), x2.il (Nat.le_refl _), ?_, ?_, ?_, ?_⟩
    · have := x3.il (Nat.le_refl _); simp only [z3] at this; exact this
    · have := x4.il (Nat.le_refl _); simp only [z4] at this; exact this
    · refine (h6.congr (f' := (rdT s st ce wd).ck) (fun k _ => ?_)).il (Nat.le_refl _)
      rw [Hck.out]; simp only [lst, rdT, z5, Nat.mul_one]
    · refine (h7.congr (f' := (rdT s st ce wd).nx) (fun k _ => ?_)).il (Nat.le_refl _)
      rw [Hnx.out]; simp only [lst, rdT, z5, Nat.mul_one]; rfl
  have HTz : Hid (TbSz (rdT s st ce wd)) := hTz
  have HAc : Hid (A.cells (rdT s st ce wd) = #[.int .i64 r, .slice (some ⟨g1, 0, none⟩) 256 256, .slice (some ⟨g2, 0, none⟩) st st, .slice (some ⟨g3, 0, none⟩) st st, .slice (some ⟨g4, 0, none⟩) st st, .slice (some ⟨g, 0, none⟩) ce ce, .slice (some ⟨g + 1, 0, none⟩) ce ce]) := hAc
  clear hTz hAc hA
  go_loopw [10] (fun x w' => ∃ k : Nat, k ≤ ce ∧ x = .int .i64 k ∧ LS w t [.int .i64 r, .slice (some ⟨g1, 0, none⟩) 256 256, .slice (some ⟨g2, 0, none⟩) st st, .slice (some ⟨g3, 0, none⟩) st st, .slice (some ⟨g4, 0, none⟩) st st, .slice (some ⟨g, 0, none⟩) ce ce, .slice (some ⟨g + 1, 0, none⟩) ce ce] R w' ∧ NRow g (fun q => if q < k then ck q else 0) ce w' ∧ NRow (g + 1) (fun q => if q < k then nx q else 0) ce w') (fun x _ => ce - (intOf x).toNat)
  case atStart => exact ⟨0, by omega, rfl, S15, M6t.congr (fun q _ => by simp), M7t.congr (fun q _ => by simp)⟩
  case round =>
    clear S15 M6t M7t
    obtain ⟨k, hk, rfl, S, M6, M7⟩ := hrel
    by_cases hlt : k < ce
    · have hlt' : (k : Int) < (ce : Int) := by omega
      obtain ⟨k2, hk2⟩ : ∃ k2, k2 = 2 * k := ⟨_, rfl⟩
      have e2 : (2 : Int) * (k : Int) = (k2 : Int) := by omega
      obtain ⟨k3, hk3⟩ : ∃ k3, k3 = 2 * k + 1 := ⟨_, rfl⟩
      have e3 : (k2 : Int) + 1 = (k3 : Int) := by omega
      have hp := Hp.out
      have l2 : k2 < c2 := by omega
      have l3 : k3 < c2 := by omega
      have l2' : (k2 : Int) < (c2 : Int) := by omega
      have l3' : (k3 : Int) < (c2 : Int) := by omega
      have gN : NRow g5 (lst s p3 1 1) c2 wr := (S.N (g5, lst s p3 1 1, c2) (by rw [HRR.out]; simp)).2
      have v1 := (gN k2 l2).1
      have E1 : Hid (lst s p3 1 1 k2 = ck k) := by show _ = _; rw [Hck.out, hk2]
      have E2 : Hid (lst s p3 1 1 k3 = nx k) := by show _ = _; rw [Hnx.out, hk3]
      rw [E1.out] at v1
      clear hk2 hk3 hp
      have c5 := (S.C 5 _ rfl).1
      obtain ⟨d1, d2⟩ := M6 k hlt
      go_wp2_with fail
      go_region
      clear v1 c5 d1 d2
      have S2 := (S.put (g := g) (j := k) t5 HR.out (.int .i64 (ck k))).draw
      have M6' : NRow g (fun q => if q = k then ck k else if q < k then ck q else 0) ce (wr.setCell ⟨g, k, none⟩ (.int .i64 (ck k))).drew := fun q hq => (NRow.set (fun q hq => M6 q hq) k hlt (ck k)) q hq
      have M7' : NRow (g + 1) (fun q => if q < k then nx q else 0) ce (wr.setCell ⟨g, k, none⟩ (.int .i64 (ck k))).drew := fun q hq => (M7.blk (Below.heap_setCell wr ⟨g, k, none⟩ (.int .i64 (ck k)) (g + 1) (by simp))) q hq
      generalize (wr.setCell ⟨g, k, none⟩ (.int .i64 (ck k))).drew = W3 at *
      clear S M6 M7 gN
      have gN : NRow g5 (lst s p3 1 1) c2 W3 := (S2.N (g5, lst s p3 1 1, c2) (by rw [HRR.out]; simp)).2
      have v1 := (gN k3 l3).1
      rw [E2.out] at v1
      have c5 := (S2.C 6 _ rfl).1
      obtain ⟨d1, d2⟩ := M7' k hlt
      go_wp2_with fail
      go_region
      have S3 := (S2.put (g := g + 1) (j := k) (by omega) (fun x hx => by rcases HR.out x hx with h | h; exact Or.inl h; exact Or.inr (by omega)) (.int .i64 (nx k))).draw
      have M7n : NRow (g + 1) (fun q => if q = k then nx k else if q < k then nx q else 0) ce (W3.setCell ⟨g + 1, k, none⟩ (.int .i64 (nx k))).drew := fun q hq => (NRow.set (fun q hq => M7' q hq) k hlt (nx k)) q hq
      have M6n : NRow g (fun q => if q = k then ck k else if q < k then ck q else 0) ce (W3.setCell ⟨g + 1, k, none⟩ (.int .i64 (nx k))).drew := fun q hq => (M6'.blk (Below.heap_setCell W3 ⟨g + 1, k, none⟩ (.int .i64 (nx k)) g (by simp))) q hq
      go_wp2_with fail
      go_roundw
      case rel =>
        refine ⟨k + 1, by omega, by go_num, S3, M6n.congr (fun q _ => ?_), M7n.congr (fun q _ => ?_)⟩
        all_goals
          by_cases e : q = k
          · subst e; simp
          · by_cases e1 : q < k
            · simp [e, e1, show q < k + 1 by omega]
            · simp [e, e1, show ¬ q < k + 1 by omega]
      case measure => simp [intOf]; omega
    · have hge : ¬ (k : Int) < (ce : Int) := by omega
      have hkc : ce = k := by omega
      subst hkc
      clear HR
      have M6c : NRow g ck ce wr := M6.congr (fun q hq => by simp [hq])
      have M7c : NRow (g + 1) nx ce wr := M7.congr (fun q hq => by simp [hq])
      have hI := HIs.out wr (fun x hx => (S.N x hx).2) M6c M7c
      have HE : Hid (Calls Try.prog 40 #[.agg #[.int .i64 r, .slice (some ⟨g1, 0, none⟩) 256 256, .slice (some ⟨g2, 0, none⟩) st st, .slice (some ⟨g3, 0, none⟩) st st, .slice (some ⟨g4, 0, none⟩) st st, .slice (some ⟨g, 0, none⟩) ce ce, .slice (some ⟨g + 1, 0, none⟩) ce ce]] wr (EncPost (rdT s st ce wd) wr)) := by
        have h := refEncode_any (rdT s st ce wd) A wr HTz.out hI
        rw [HAc.out] at h
        exact h
      have hrg := S.C.range
      clear hI M6 M7
      go_wp2_with (first | (refine wpList_load_mid rfl 26 _ rfl t 0 rfl [.int .i64 r, .slice (some ⟨g1, 0, none⟩) 256 256, .slice (some ⟨g2, 0, none⟩) st st, .slice (some ⟨g3, 0, none⟩) st st, .slice (some ⟨g4, 0, none⟩) st st, .slice (some ⟨g, 0, none⟩) ce ce, .slice (some ⟨g + 1, 0, none⟩) ce ce] _ hrg Try.underlying26 rfl info_tables ?_))
      refine HE.out.mono ?_
      rintro e w8 ⟨hW8, hcase⟩
      have S8 := S.call hW8
      have M6d := M6c.below hW8
      have M7d := M7c.below hW8
      have hT8 := S8.T
      have hB8 := S8.B
      have hrg8 := S8.C.range
      have tl := S8.lt
      have HI9 : Hid (∀ W9, w8.grownBy W9 (some w.heap.size) → TbF w.heap.size (rdT s st ce wd) A W9) := fun W9 hG w'' _ hk =>
        HIs.out w'' (fun x hx => ((S8.N x hx).2.grownNe hG (by have := (S8.N x hx).1; omega)).keepF hk (by have := (S8.N x hx).1; omega)) ((M6d.grownNe hG (by omega)).keepF hk (by omega)) ((M7d.grownNe hG (by omega)).keepF hk (by omega))
      clear HE S hW8 M6c M7c hrg S8 M6d M7d HIs HTz
      generalize rdT s st ce wd = T at *
      rcases hcase with ⟨hS, rfl⟩ | ⟨hS, rfl⟩
      · have HS : Hid (Snd T) := hS
        obtain ⟨F, hF⟩ : ∃ F : ByteArray, (⟨(fileL T).toArray⟩ : ByteArray) = F := ⟨_, rfl⟩
        rw [hF]
        have HF : Hid ((⟨(fileL T).toArray⟩ : ByteArray) = F) := hF
        clear hS hF
        by_cases hFs : F = s
        case neg =>
          have hq1 : (F.toList == s.toList) = false := by
            rw [beq_eq_false_iff_ne]; exact fun h => hFs (bytes_inj h)
          obtain ⟨V, hV, hl, hp⟩ := dec_out hT8 hB8 (Or.inr (Or.inr (Or.inr ⟨Hm.out, HFt.out, Hsum.out, fun h => hFs (by have h1 := h.2; rw [HTi.out, HF.out] at h1; exact h1), rfl⟩)) : DecIs s 11)
          have HP1 : Hid (DecPost s w (.returned (.tuple #[.agg zeroT, .int .i64 11])) V) := hp
          have HW1 : Hid (V = w8.setCells w.heap.size 0 zeroT.toList) := hV
          have HL1 : Hid ((loadVar 26 ⟨w.heap.size, 0, none⟩).run Try.prog V = .ok (.agg zeroT) V) := hl
          have hz := zero_tables
          clear hp hV hl
          go_wp2_with (first | (refine wpList_store_mid rfl 26 _ _ rfl w.heap.size 0 zeroT rfl rfl hT8 info_tables (by simp [zeroT, Value.oneCell']) ?_; rw [← HW1.out]))
          refine bodyPost_ret (v := .tuple #[.agg zeroT, .int .i64 11]) (eResults_load2 Try.results43 rfl HL1.out rfl) rfl HP1.out
        have hq1 : (F.toList == s.toList) = true := by rw [hFs]; simp
        have hG := setCells_grown w.heap.size [.int .i64 r, .slice (some ⟨g1, 0, none⟩) 256 256, .slice (some ⟨g2, 0, none⟩) st st, .slice (some ⟨g3, 0, none⟩) st st, .slice (some ⟨g4, 0, none⟩) st st, .slice (some ⟨g, 0, none⟩) ce ce, .slice (some ⟨g + 1, 0, none⟩) ce ce] 0 w8
        have hr' := World.rangeAt_setCells_same w8 w.heap.size 0 [.int .i64 r, .slice (some ⟨g1, 0, none⟩) 256 256, .slice (some ⟨g2, 0, none⟩) st st, .slice (some ⟨g3, 0, none⟩) st st, .slice (some ⟨g4, 0, none⟩) st st, .slice (some ⟨g, 0, none⟩) ce ce, .slice (some ⟨g + 1, 0, none⟩) ce ce] hT8
        have hfin := run_loadVar_mid (P := Try.prog) (w8.setCells w.heap.size 0 [.int .i64 r, .slice (some ⟨g1, 0, none⟩) 256 256, .slice (some ⟨g2, 0, none⟩) st st, .slice (some ⟨g3, 0, none⟩) st st, .slice (some ⟨g4, 0, none⟩) st st, .slice (some ⟨g, 0, none⟩) ce ce, .slice (some ⟨g + 1, 0, none⟩) ce ce]) w.heap.size 0 26 [.int .i64 r, .slice (some ⟨g1, 0, none⟩) 256 256, .slice (some ⟨g2, 0, none⟩) st st, .slice (some ⟨g3, 0, none⟩) st st, .slice (some ⟨g4, 0, none⟩) st st, .slice (some ⟨g, 0, none⟩) ce ce, .slice (some ⟨g + 1, 0, none⟩) ce ce] _ hr' Try.underlying26 rfl info_tables
        obtain ⟨W9, hW9⟩ : ∃ W, W = w8.setCells w.heap.size 0 [.int .i64 r, .slice (some ⟨g1, 0, none⟩) 256 256, .slice (some ⟨g2, 0, none⟩) st st, .slice (some ⟨g3, 0, none⟩) st st, .slice (some ⟨g4, 0, none⟩) st st, .slice (some ⟨g, 0, none⟩) ce ce, .slice (some ⟨g + 1, 0, none⟩) ce ce] := ⟨_, rfl⟩
        rw [← hW9] at hG hfin
        have HW9 : Hid (W9 = w8.setCells w.heap.size 0 [.int .i64 r, .slice (some ⟨g1, 0, none⟩) 256 256, .slice (some ⟨g2, 0, none⟩) st st, .slice (some ⟨g3, 0, none⟩) st st, .slice (some ⟨g4, 0, none⟩) st st, .slice (some ⟨g, 0, none⟩) ce ce, .slice (some ⟨g + 1, 0, none⟩) ce ce]) := hW9
        have Hfin : Hid ((loadVar 26 ⟨w.heap.size, 0, none⟩).run Try.prog W9 = .ok (.agg #[.int .i64 r, .slice (some ⟨g1, 0, none⟩) 256 256, .slice (some ⟨g2, 0, none⟩) st st, .slice (some ⟨g3, 0, none⟩) st st, .slice (some ⟨g4, 0, none⟩) st st, .slice (some ⟨g, 0, none⟩) ce ce, .slice (some ⟨g + 1, 0, none⟩) ce ce]) W9) := hfin
        clear hW9 hr' hfin
        go_wp2_with (first | (refine wpList_load_mid rfl 26 _ rfl t 0 rfl [.int .i64 r, .slice (some ⟨g1, 0, none⟩) 256 256, .slice (some ⟨g2, 0, none⟩) st st, .slice (some ⟨g3, 0, none⟩) st st, .slice (some ⟨g4, 0, none⟩) st st, .slice (some ⟨g, 0, none⟩) ce ce, .slice (some ⟨g + 1, 0, none⟩) ce ce] _ hrg8 Try.underlying26 rfl info_tables ?_) | (refine wpList_store_mid rfl 26 _ _ rfl w.heap.size 0 #[.int .i64 r, .slice (some ⟨g1, 0, none⟩) 256 256, .slice (some ⟨g2, 0, none⟩) st st, .slice (some ⟨g3, 0, none⟩) st st, .slice (some ⟨g4, 0, none⟩) st st, .slice (some ⟨g, 0, none⟩) ce ce, .slice (some ⟨g + 1, 0, none⟩) ce ce] rfl rfl hT8 info_tables (by simp [Value.oneCell']) ?_; rw [List.toList_toArray, ← HW9.out]))
        refine bodyPost_ret (v := .tuple #[.agg #[.int .i64 r, .slice (some ⟨g1, 0, none⟩) 256 256, .slice (some ⟨g2, 0, none⟩) st st, .slice (some ⟨g3, 0, none⟩) st st, .slice (some ⟨g4, 0, none⟩) st st, .slice (some ⟨g, 0, none⟩) ce ce, .slice (some ⟨g + 1, 0, none⟩) ce ce], .int .i64 0]) (eResults_load2 Try.results43 rfl Hfin.out rfl) rfl ?_
        refine ⟨hB8.grown hG hB8.size (fun q hq => by cases hq; exact Nat.le_refl _), Or.inr ⟨⟨Hm.out, HFt.out, Hsum.out, ?_, ?_⟩, A, ?_, ?_⟩⟩
        · rw [HTi.out]; exact HS.out
        · rw [HTi.out, HF.out]; exact hFs
        · rw [HTi.out, HAc.out]
        · rw [HTi.out]; exact HI9.out W9 hG
      · have HS : Hid (¬ Snd T) := hS
        clear hS
        obtain ⟨V, hV, hl, hp⟩ := dec_out hT8 hB8 (Or.inr (Or.inr (Or.inr ⟨Hm.out, HFt.out, Hsum.out, fun h => HS.out (by have h1 := h.1; rw [HTi.out] at h1; exact h1), rfl⟩)) : DecIs s 11)
        have HP1 : Hid (DecPost s w (.returned (.tuple #[.agg zeroT, .int .i64 11])) V) := hp
        have HW1 : Hid (V = w8.setCells w.heap.size 0 zeroT.toList) := hV
        have HL1 : Hid ((loadVar 26 ⟨w.heap.size, 0, none⟩).run Try.prog V = .ok (.agg zeroT) V) := hl
        have hz := zero_tables
        clear hp hV hl
        go_wp2_with (first | (refine wpList_store_mid rfl 26 _ _ rfl w.heap.size 0 zeroT rfl rfl hT8 info_tables (by simp [zeroT, Value.oneCell']) ?_; rw [← HW1.out]))
        refine bodyPost_ret (v := .tuple #[.agg zeroT, .int .i64 11]) (eResults_load2 Try.results43 rfl HL1.out rfl) rfl HP1.out

/-- The reference's Load does as the program's Decode. -/
theorem refLoad_any (s : ByteArray) (w : World) (hs : s.size ≤ 140737488355328) : Calls Try.prog 43 #[.string s] w (DecPost s w) := by
  cases hm : magicB s
  · exact refLoad_magic s w hs hm
  · by_cases hF : Fits s
    · exact refLoad_fits s w hm hF
    · exact refLoad_head s w hs hm hF
end Go.Proofs.Ytoaaklhpmhjhkaa
