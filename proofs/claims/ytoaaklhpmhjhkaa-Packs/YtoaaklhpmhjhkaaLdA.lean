/-
  Contracts of the program's reader of files.
-/
import Derived.Test.YtoaaklhpmhjhkaaEncM
namespace Go.Proofs.Ytoaaklhpmhjhkaa
open Go.RowKit

/-- The byte at a place of a file; the number of so many bytes from there on. -/
def fb (s : ByteArray) (i : Nat) : Int := ((s.data.toList.getD i 0).toNat : Int)
def num (s : ByteArray) (i : Nat) : Nat → Int
  | 0 => 0
  | k + 1 => num s i k * 256 + fb s (i + k)
theorem fb_bd (s : ByteArray) (i : Nat) : 0 ≤ fb s i ∧ fb s i < 256 := by
  have := (s.data.toList.getD i 0).toNat_lt
  unfold fb; omega
theorem fb_at (s : ByteArray) (i : Nat) (h : i < s.size) : (s[i].toNat : Int) = fb s i := by
  unfold fb; rw [← get_getD s i h]
theorem num_bd (s : ByteArray) (i : Nat) : ∀ k, k ≤ 2 → 0 ≤ num s i k ∧ num s i k < 65536 ∧ (k ≤ 1 → num s i k < 256) ∧ (k = 0 → num s i k = 0)
  | 0, _ => by simp [num]
  | 1, _ => by have := fb_bd s (i + 0); simp [num] at *; omega
  | 2, _ => by have := fb_bd s (i + 0); have := fb_bd s (i + 1); simp [num] at *; omega
theorem grown_refl (w : World) (r : Option Nat) : w.grownBy w r := ⟨rfl, rfl, rfl, Nat.le_refl _, fun _ _ _ => rfl⟩
theorem grown_trans {a b c : World} {r : Option Nat} (h : a.grownBy b r) (k : b.grownBy c r) : a.grownBy c r :=
  ⟨k.os.trans h.os, k.tape.trans h.tape, k.output.trans h.output, Nat.le_trans h.size k.size, fun q hq hr => (k.block q (Nat.lt_of_lt_of_le hq h.size) hr).trans (h.block q hq hr)⟩
theorem grown_below {b : Nat} {w w' : World} (h : w.grownBy w' (some b)) (hb : b ≤ w.heap.size) : Below b w w' := (Below.refl b w).grown h hb (fun k hk => by cases hk; exact Nat.le_refl _)
/-- A reader at b. -/
structure Rdr (b : Nat) (s : ByteArray) (at_ : Nat) (w : World) : Prop where
  c0 : w.cell? ⟨b, 0, none⟩ = some (.string s)
  c1 : w.cell? ⟨b, 1, none⟩ = some (.int .i64 at_)
  f1 : w.frozen? ⟨b, 1, none⟩ = false
theorem Rdr.lt {b : Nat} {s : ByteArray} {i : Nat} {w : World} (h : Rdr b s i w) : b < w.heap.size := World.block_lt_of_cell? w _ h.c0
theorem Rdr.block {b : Nat} {s : ByteArray} {i : Nat} {w w' : World} (h : Rdr b s i w) (hb : w'.heap[b]? = w.heap[b]?) : Rdr b s i w' :=
  ⟨by rw [World.cell?_of_block (w := w) (a := ⟨b, 0, none⟩) hb]; exact h.c0, by rw [World.cell?_of_block (w := w) (a := ⟨b, 1, none⟩) hb]; exact h.c1, by rw [World.frozen?_of_block (w := w) (a := ⟨b, 1, none⟩) hb]; exact h.f1⟩
theorem Rdr.below {b B : Nat} {s : ByteArray} {i : Nat} {w w' : World} (h : Rdr b s i w) (hW : Below B w w') (hB : b < B) : Rdr b s i w' := h.block (hW.block b hB)
theorem Rdr.set {b : Nat} {s : ByteArray} {i : Nat} {w : World} (h : Rdr b s i w) (x : Int) (j : Nat) (hx : x = j) : Rdr b s j (w.setCell ⟨b, 1, none⟩ (.int .i64 x)) := by
  subst hx
  obtain ⟨c0, c1, f1⟩ := h
  refine ⟨?_, ?_, ?_⟩ <;> go_simp

set_option maxRecDepth 100000 in
set_option maxHeartbeats 1000000 in
theorem takeByte_any (b : Nat) (s : ByteArray) (i : Nat) (w : World) (hs : s.size ≤ 281474976710656) (hi : i < s.size) (h : Rdr b s i w) :
    Calls Try.prog 144 #[.pointer (some ⟨b, 0, none⟩)] w fun e w' => e = .returned (.int .i64 (fb s i)) ∧ Rdr b s (i + 1) w' ∧ w.grownBy w' (some b) ∧ w'.heap.size = w.heap.size := by
  have hb := fb_at s i hi
  have HB : Hid ((s[i].toNat : Int) = fb s i) := hb
  clear hb
  have hi' : (i : Int) < (s.size : Int) := by omega
  have hge : ¬ (s.size : Int) ≤ (i : Int) := by omega
  have H : Hid (Rdr b s i w) := h
  obtain ⟨c0, c1, f1⟩ := h
  go_enter Try.func144, Try.ntmps144
  go_wp2_with fail
  go_quiet (fail)
  go_wp2_with fail
  go_quiet (fail)
  go_wp2_with fail
  go_ret
  refine ⟨ret_int (by have h1 := s[i].toNat_lt; have h2 := HB.out; unfold wrap64; omega), ?_, ?_, ?_⟩
  · exact Rdr.set (w := w.drewN _) ⟨H.out.c0, H.out.c1, H.out.f1⟩ _ (i + 1) (by omega)
  · exact ⟨rfl, rfl, rfl, by simp [World.setCell], fun k _ hk => Below.heap_setCell (w.drewN _) ⟨b, 1, none⟩ _ k (fun e => hk (by rw [e]))⟩
  · simp [World.setCell]

set_option maxRecDepth 100000 in
set_option maxHeartbeats 1000000 in
theorem take_any (b : Nat) (s : ByteArray) (i k : Nat) (w : World) (hs : s.size ≤ 281474976710656) (hk : k ≤ 2) (hi : i + k ≤ s.size) (h : Rdr b s i w) :
    Calls Try.prog 129 #[.pointer (some ⟨b, 0, none⟩), .int .i64 k] w fun e w' => e = .returned (.int .i64 (num s i k)) ∧ Rdr b s (i + k) w' ∧ w.grownBy w' (some b) ∧ w'.heap.size = w.heap.size := by
  have H : Hid (Rdr b s i w) := h
  clear h
  go_enter Try.func129, Try.ntmps129
  go_wp2_with fail
  go_loopw [5, 8] (fun x t w' => ∃ j : Nat, j ≤ k ∧ t = .int .i64 j ∧ x = .int .i64 (num s i j) ∧ Rdr b s (i + j) w' ∧ w.grownBy w' (some b) ∧ w'.heap.size = w.heap.size) (fun _ t _ => k - (intOf t).toNat)
  case atStart => exact ⟨0, by omega, rfl, rfl, H.out, grown_refl _ _, rfl⟩
  case round =>
    obtain ⟨j, hj, rfl, rfl, hR, hB, hz⟩ := hrel
    by_cases hlt : j < k
    · have hlt' : (j : Int) < (k : Int) := by omega
      have hn := num_bd s i j (by omega)
      have hf := fb_bd s (i + j)
      have HN : Hid (num s i (j + 1) = num s i j * 256 + fb s (i + j)) := rfl
      have HT : Hid (Calls Try.prog 144 #[.pointer (some ⟨b, 0, none⟩)] wr fun e w' => e = .returned (.int .i64 (fb s (i + j))) ∧ Rdr b s (i + j + 1) w' ∧ wr.grownBy w' (some b) ∧ w'.heap.size = wr.heap.size) := takeByte_any b s (i + j) wr hs (by omega) hR
      generalize num s i j = x at *
      generalize fb s (i + j) = y at *
      go_wp2_with fail
      refine HT.out.mono ?_
      rintro e w2 ⟨rfl, hR2, hB2, hz2⟩
      go_wp2_with fail
      go_roundw
      case rel => exact ⟨j + 1, by omega, by go_num, by rw [HN.out], by rw [← Nat.add_assoc]; exact hR2, grown_trans hB hB2, by rw [hz2, hz]⟩
      case measure => simp [intOf]; omega
    · have hge : ¬ (j : Int) < (k : Int) := by omega
      have hjk : j = k := by omega
      subst hjk
      go_wp2_with fail
      go_ret
      exact ⟨rfl, hR, hB, hz⟩
/-- Numbers as cells. -/
def nms (f : Nat → Int) (n : Nat) : List Value := (List.range n).map fun i => .int .i64 (f i)
theorem nms_succ (f : Nat → Int) (n : Nat) : nms f (n + 1) = nms f n ++ [.int .i64 (f n)] := by simp [nms, List.range_succ]
theorem nms_len (f : Nat → Int) (n : Nat) : (nms f n).length = n := by simp [nms]
theorem Grows.il {base : Nat} {v : Value} {f : Nat → Int} {n : Nat} {w : World} (h : Grows base v (nms f n) w) : ∃ ad cap, v = .slice ad n cap ∧ IL ad f n w := by
  rcases h with ⟨rfl, h⟩ | ⟨g, cap, rfl, h1, h2, h3, h4, h5⟩
  · have : n = 0 := by rw [← nms_len f n, h]; rfl
    subst this
    exact ⟨none, 0, rfl, fun i hi => by omega⟩
  · refine ⟨some ⟨g, 0, none⟩, cap, by rw [nms_len], fun i hi => ⟨g, 0, rfl, ?_⟩⟩
    rw [Nat.zero_add]
    exact h4 i _ (by simp [nms, hi])
/-- The numbers of a list of a file. -/
def lst (s : ByteArray) (i k : Nat) (less : Int) : Nat → Int := fun j => num s (i + j * k) k - less

set_option maxRecDepth 100000 in
set_option maxHeartbeats 1000000 in
theorem takeList_any (b : Nat) (s : ByteArray) (i cnt k : Nat) (less : Int) (w : World) (hs : s.size ≤ 1000000) (hk : k ≤ 2) (hl : 0 ≤ less ∧ less ≤ 1) (hi : i + cnt * k ≤ s.size) (hc : cnt ≤ 100000) (h : Rdr b s i w) :
    Calls Try.prog 130 #[.pointer (some ⟨b, 0, none⟩), .int .i64 cnt, .int .i64 k, .int .i64 less] w fun e w' => ∃ v, e = .returned v ∧ Grows w.heap.size v (nms (lst s i k less) cnt) w' ∧ Rdr b s (i + cnt * k) w' ∧ w.grownBy w' (some b) := by
  have H : Hid (Rdr b s i w) := h
  have hbl := h.lt
  clear h
  obtain ⟨ti, hti, tz0, tz1, tz2⟩ := eInfoInt
  obtain ⟨hl0, hl1⟩ := hl
  go_enter Try.func130, Try.ntmps130
  go_wp2_with fail
  go_loopw [9, 12] (fun v t w' => ∃ j : Nat, j ≤ cnt ∧ t = .int .i64 j ∧ Grows w.heap.size v (nms (lst s i k less) j) w' ∧ Rdr b s (i + j * k) w' ∧ w.grownBy w' (some b)) (fun _ t _ => cnt - (intOf t).toNat)
  case atStart => exact ⟨0, by omega, rfl, Grows.nil _ _, by simpa using H.out, grown_refl _ _⟩
  case round =>
    obtain ⟨j, hj, rfl, hG, hR, hB⟩ := hrel
    by_cases hlt : j < cnt
    · have hlt' : (j : Int) < (cnt : Int) := by omega
      have hjk : i + j * k + k ≤ s.size := by
        have : (j + 1) * k ≤ cnt * k := Nat.mul_le_mul_right _ (by omega)
        rw [Nat.add_mul, Nat.one_mul] at this
        omega
      have hn := num_bd s (i + j * k) k hk
      have HL : Hid (lst s i k less j = num s (i + j * k) k - less) := rfl
      have HT : Hid (Calls Try.prog 129 #[.pointer (some ⟨b, 0, none⟩), .int .i64 k] wr fun e w' => e = .returned (.int .i64 (num s (i + j * k) k)) ∧ Rdr b s (i + j * k + k) w' ∧ wr.grownBy w' (some b) ∧ w'.heap.size = wr.heap.size) := take_any b s (i + j * k) k wr (by omega) hk hjk hR
      have HJ : Hid (i + (j + 1) * k = i + j * k + k) := by show _ = _; rw [Nat.add_mul, Nat.one_mul]; omega
      generalize num s (i + j * k) k = x at *
      go_wp2_with fail
      refine HT.out.mono ?_
      rintro e w2 ⟨rfl, hR2, hB2, hz2⟩
      have hsz2 : wr.heap.size ≤ w2.heap.size := by omega
      clear hz2
      have hG2 : Grows w.heap.size u9 (nms (lst s i k less) j) w2 := hG.block (by omega) (fun q hq hv => hB2.block q hq (fun e => by have := hG.ge q hv; have e' : q = b := Option.some.inj e; omega))
      have hB12 := grown_trans hB hB2
      have hsw : w.heap.size ≤ w2.heap.size := hB12.size
      have hG3 := hG2.alloc (.cells #[.int .i64 (x - less)] 3)
      have hR3 : Rdr b s (i + j * k + k) (w2.alloc (.cells #[.int .i64 (x - less)] 3)) := hR2.block (Below.heap_alloc w2 _ b (by omega))
      have hB3 := grown_trans hB12 (World.grownBy_alloc w2 (.cells #[.int .i64 (x - less)] 3) (some b))
      have hnew : ∀ q u, [Value.int .i64 (x - less)][q]? = some u → (w2.alloc (.cells #[.int .i64 (x - less)] 3)).cell? ⟨w2.heap.size, q, none⟩ = some u := fun q u hu => by
        rw [World.cell?_alloc_new]; simpa using hu
      have hlen : (nms (lst s i k less) j).length + 1 ≤ 100000000 := by rw [nms_len]; omega
      have Hlen : Hid ((nms (lst s i k less) j).length = j) := nms_len _ _
      go_wp2_with (first | (at_builtin; refine wpList_grow (by rfl) _ _ 24 3 (by rfl) ti (.int .i64 0) 8 Try.underlying24 hti tz0 tz1 tz2 rfl (by omega) w.heap.size u9 (nms (lst s i k less) j) (by rfl) hG3 w2.heap.size 1 [.int .i64 (x - less)] (by rfl) rfl hnew (by simp [Value.oneCell']) hlen (by simp; omega) (by omega) ?_; intro g cap w3 hG4 hgrow))
      rw [← HL.out, ← nms_succ] at hG4
      go_roundw
      case rel => exact ⟨j + 1, by omega, by go_num, hG4, by rw [HJ.out]; exact hR3.block (hgrow.block b (by simp; omega) (fun e => by have := hG2.ge b e.symm; omega)), ⟨hgrow.os.trans hB3.os, hgrow.tape.trans hB3.tape, hgrow.output.trans hB3.output, Nat.le_trans hB3.size hgrow.size, fun q hq hr => (hgrow.block q (Nat.lt_of_lt_of_le hq hB3.size) (fun e => by have := hG2.ge q e.symm; omega)).trans (hB3.block q hq hr)⟩⟩
      case measure => simp [intOf]; omega
    · have hge : ¬ (j : Int) < (cnt : Int) := by omega
      have hjk : j = cnt := by omega
      subst hjk
      go_wp2_with fail
      go_ret
      exact ⟨_, rfl, hG, hR, hB⟩
end Go.Proofs.Ytoaaklhpmhjhkaa
