/-
  Contracts of the program's readHead, canBe, size, isMagic.
-/
import Derived.Test.YtoaaklhpmhjhkaaLdA
namespace Go.Proofs.Ytoaaklhpmhjhkaa
open Go.RowKit

/-- What readHead has at hand: its result at b, the reader at b + 1, the head at b + 1 + 1. -/
structure RH (b : Nat) (s : ByteArray) (i : Nat) (h0 h1 h2 h3 : Int) (w : World) : Prop where
  r : Rdr (b + 1) s i w
  c0 : w.cell? ⟨b + 1 + 1, 0, none⟩ = some (.int .i64 h0)
  c1 : w.cell? ⟨b + 1 + 1, 1, none⟩ = some (.int .i64 h1)
  c2 : w.cell? ⟨b + 1 + 1, 2, none⟩ = some (.int .i64 h2)
  c3 : w.cell? ⟨b + 1 + 1, 3, none⟩ = some (.int .i64 h3)
  f0 : w.frozen? ⟨b + 1 + 1, 0, none⟩ = false
  f1 : w.frozen? ⟨b + 1 + 1, 1, none⟩ = false
  f2 : w.frozen? ⟨b + 1 + 1, 2, none⟩ = false
  f3 : w.frozen? ⟨b + 1 + 1, 3, none⟩ = false
  z0 : w.cell? ⟨b, 0, none⟩ = some (.int .i64 0)
  z1 : w.cell? ⟨b, 1, none⟩ = some (.int .i64 0)
  z2 : w.cell? ⟨b, 2, none⟩ = some (.int .i64 0)
  z3 : w.cell? ⟨b, 3, none⟩ = some (.int .i64 0)
  y0 : w.frozen? ⟨b, 0, none⟩ = false
  y1 : w.frozen? ⟨b, 1, none⟩ = false
  y2 : w.frozen? ⟨b, 2, none⟩ = false
  y3 : w.frozen? ⟨b, 3, none⟩ = false
theorem RH.take {b : Nat} {s : ByteArray} {i j : Nat} {h0 h1 h2 h3 : Int} {w w' : World} (h : RH b s i h0 h1 h2 h3 w) (hr : Rdr (b + 1) s j w') (hg : w.grownBy w' (some (b + 1))) : RH b s j h0 h1 h2 h3 w' := by
  have l2 : b + 1 + 1 < w.heap.size := World.block_lt_of_cell? w _ h.c0
  have e2 : ∀ k, w'.cell? ⟨b + 1 + 1, k, none⟩ = w.cell? ⟨b + 1 + 1, k, none⟩ := fun k => World.cell?_of_block (w := w) (a := ⟨b + 1 + 1, k, none⟩) (hg.block _ l2 (by simp))
  have d2 : ∀ k, w'.frozen? ⟨b + 1 + 1, k, none⟩ = w.frozen? ⟨b + 1 + 1, k, none⟩ := fun k => World.frozen?_of_block (w := w) (a := ⟨b + 1 + 1, k, none⟩) (hg.block _ l2 (by simp))
  have e0 : ∀ k, w'.cell? ⟨b, k, none⟩ = w.cell? ⟨b, k, none⟩ := fun k => World.cell?_of_block (w := w) (a := ⟨b, k, none⟩) (hg.block b (by omega) (by simp))
  have d0 : ∀ k, w'.frozen? ⟨b, k, none⟩ = w.frozen? ⟨b, k, none⟩ := fun k => World.frozen?_of_block (w := w) (a := ⟨b, k, none⟩) (hg.block b (by omega) (by simp))
  exact ⟨hr, by rw [e2]; exact h.c0, by rw [e2]; exact h.c1, by rw [e2]; exact h.c2, by rw [e2]; exact h.c3, by rw [d2]; exact h.f0, by rw [d2]; exact h.f1, by rw [d2]; exact h.f2, by rw [d2]; exact h.f3,
    by rw [e0]; exact h.z0, by rw [e0]; exact h.z1, by rw [e0]; exact h.z2, by rw [e0]; exact h.z3, by rw [d0]; exact h.y0, by rw [d0]; exact h.y1, by rw [d0]; exact h.y2, by rw [d0]; exact h.y3⟩
theorem RH.set {b : Nat} {s : ByteArray} {i : Nat} {h0 h1 h2 h3 : Int} {w : World} (h : RH b s i h0 h1 h2 h3 w) (x : Int) :
    RH b s i x h1 h2 h3 (w.setCell ⟨b + 1 + 1, 0, none⟩ (.int .i64 x)) ∧ RH b s i h0 x h2 h3 (w.setCell ⟨b + 1 + 1, 1, none⟩ (.int .i64 x)) ∧ RH b s i h0 h1 x h3 (w.setCell ⟨b + 1 + 1, 2, none⟩ (.int .i64 x)) ∧ RH b s i h0 h1 h2 x (w.setCell ⟨b + 1 + 1, 3, none⟩ (.int .i64 x)) := by
  obtain ⟨⟨r0, r1, r2⟩, c0, c1, c2, c3, f0, f1, f2, f3, z0, z1, z2, z3, y0, y1, y2, y3⟩ := h
  refine ⟨⟨⟨?_, ?_, ?_⟩, ?_, ?_, ?_, ?_, ?_, ?_, ?_, ?_, ?_, ?_, ?_, ?_, ?_, ?_, ?_, ?_⟩, ⟨⟨?_, ?_, ?_⟩, ?_, ?_, ?_, ?_, ?_, ?_, ?_, ?_, ?_, ?_, ?_, ?_, ?_, ?_, ?_, ?_⟩, ⟨⟨?_, ?_, ?_⟩, ?_, ?_, ?_, ?_, ?_, ?_, ?_, ?_, ?_, ?_, ?_, ?_, ?_, ?_, ?_, ?_⟩, ⟨⟨?_, ?_, ?_⟩, ?_, ?_, ?_, ?_, ?_, ?_, ?_, ?_, ?_, ?_, ?_, ?_, ?_, ?_, ?_, ?_⟩⟩ <;> go_simp
/-- The head of a file. -/
def headV (s : ByteArray) : Value := .agg #[.int .i64 (num s 4 1), .int .i64 (num s 6 1), .int .i64 (num s 7 2), .int .i64 (num s 9 1)]

theorem info_head : (Try.prog.info? 127).map (·.size) = some 4 := by kernel_rfl

set_option maxRecDepth 100000 in
set_option maxHeartbeats 2000000 in
theorem readHead_any (s : ByteArray) (w : World) (hs : s.size ≤ 281474976710656) (h10 : 10 ≤ s.size) :
    Calls Try.prog 100 #[.string s] w fun e w' => e = .returned (headV s) ∧ Below w.heap.size w w' := by
  unfold headV
  obtain ⟨W, hW⟩ : ∃ W, W = ((w.alloc (.cells #[.int .i64 0, .int .i64 0, .int .i64 0, .int .i64 0] 127)).alloc (.cells #[.string s, .int .i64 4] 166)).alloc (.cells #[.int .i64 0, .int .i64 0, .int .i64 0, .int .i64 0] 127) := ⟨_, rfl⟩
  have hRH : RH w.heap.size s 4 0 0 0 0 W := by
    rw [hW]
    refine ⟨⟨?_, ?_, ?_⟩, ?_, ?_, ?_, ?_, ?_, ?_, ?_, ?_, ?_, ?_, ?_, ?_, ?_, ?_, ?_, ?_⟩ <;> go_simp
  have hBW : Below w.heap.size w W := by
    rw [hW]
    exact (((Below.refl _ _).alloc (Nat.le_refl _) _).alloc (by simp) _).alloc (by simp; omega) _
  go_enter Try.func100, Try.ntmps100
  go_wp2_with fail
  rw [← hW]
  clear hW
  have hbw : w.heap.size ≤ w.heap.size := Nat.le_refl _
  generalize hb : w.heap.size = b at *
  clear hbw
  refine Calls.mono (take_any (b + 1) s 4 1 W hs (by omega) (by omega) hRH.r) ?_
  rintro e w1 ⟨rfl, hr1, hg1, hz1⟩
  have R1 := hRH.take hr1 hg1
  have B1 : Below b w w1 := hBW.grown hg1 (by have := hBW.size; omega) (fun k hk => by cases hk; omega)
  have S1 := (R1.set (num s 4 1)).1
  have C1 : Below b w (w1.setCell ⟨b + 1 + 1, 0, none⟩ (.int .i64 (num s 4 1))) := B1.setCell (p := ⟨b + 1 + 1, 0, none⟩) (by simp; omega) _
  have q1 := R1.c0
  have p1 := R1.f0
  go_wp2_with fail
  clear q1 p1 hr1 hg1 hz1 R1 B1
  generalize w1.setCell ⟨b + 1 + 1, 0, none⟩ (.int .i64 (num s 4 1)) = W1 at *
  refine Calls.mono (take_any (b + 1) s 5 1 W1 hs (by omega) (by omega) S1.r) ?_
  rintro e w2 ⟨rfl, hr2, hg2, hz2⟩
  have R2 := S1.take hr2 hg2
  have B2 : Below b w w2 := C1.grown hg2 (by have := C1.size; omega) (fun k hk => by cases hk; omega)
  go_wp2_with fail
  clear hr2 hg2 hz2
  refine Calls.mono (take_any (b + 1) s 6 1 w2 hs (by omega) (by omega) R2.r) ?_
  rintro e w3 ⟨rfl, hr3, hg3, hz3⟩
  have R3 := R2.take hr3 hg3
  have B3 : Below b w w3 := B2.grown hg3 (by have := B2.size; omega) (fun k hk => by cases hk; omega)
  have S3 := (R3.set (num s 6 1)).2.1
  have C3 : Below b w (w3.setCell ⟨b + 1 + 1, 1, none⟩ (.int .i64 (num s 6 1))) := B3.setCell (p := ⟨b + 1 + 1, 1, none⟩) (by simp; omega) _
  have q3 := R3.c1
  have p3 := R3.f1
  go_wp2_with fail
  clear q3 p3 hr3 hg3 hz3 R3 B3
  generalize w3.setCell ⟨b + 1 + 1, 1, none⟩ (.int .i64 (num s 6 1)) = W3 at *
  refine Calls.mono (take_any (b + 1) s 7 2 W3 hs (by omega) (by omega) S3.r) ?_
  rintro e w4 ⟨rfl, hr4, hg4, hz4⟩
  have R4 := S3.take hr4 hg4
  have B4 : Below b w w4 := C3.grown hg4 (by have := C3.size; omega) (fun k hk => by cases hk; omega)
  have S4 := (R4.set (num s 7 2)).2.2.1
  have C4 : Below b w (w4.setCell ⟨b + 1 + 1, 2, none⟩ (.int .i64 (num s 7 2))) := B4.setCell (p := ⟨b + 1 + 1, 2, none⟩) (by simp; omega) _
  have q4 := R4.c2
  have p4 := R4.f2
  go_wp2_with fail
  clear q4 p4 hr4 hg4 hz4 R4 B4
  generalize w4.setCell ⟨b + 1 + 1, 2, none⟩ (.int .i64 (num s 7 2)) = W4 at *
  refine Calls.mono (take_any (b + 1) s 9 1 W4 hs (by omega) (by omega) S4.r) ?_
  rintro e w5 ⟨rfl, hr5, hg5, hz5⟩
  have R5 := S4.take hr5 hg5
  have B5 : Below b w w5 := C4.grown hg5 (by have := C4.size; omega) (fun k hk => by cases hk; omega)
  have HB5 : Hid (Below b w w5) := B5
  obtain ⟨_, c0, c1, c2, c3, f0, f1, f2, f3, z0, z1, z2, z3, y0, y1, y2, y3⟩ := R5
  clear hr5 hg5 hz5 S4 C4 B5
  go_wp2_with fail
  have hfin : (loadVar 127 ⟨b, 0, none⟩).run Try.prog (((((w5.setCell ⟨b + 1 + 1, 3, none⟩ (.int .i64 (num s 9 1))).setCell ⟨b, 0, none⟩ (.int .i64 (num s 4 1))).setCell ⟨b, 1, none⟩ (.int .i64 (num s 6 1))).setCell ⟨b, 2, none⟩ (.int .i64 (num s 7 2))).setCell ⟨b, 3, none⟩ (.int .i64 (num s 9 1))) = .ok (.agg #[.int .i64 (num s 4 1), .int .i64 (num s 6 1), .int .i64 (num s 7 2), .int .i64 (num s 9 1)]) (((((w5.setCell ⟨b + 1 + 1, 3, none⟩ (.int .i64 (num s 9 1))).setCell ⟨b, 0, none⟩ (.int .i64 (num s 4 1))).setCell ⟨b, 1, none⟩ (.int .i64 (num s 6 1))).setCell ⟨b, 2, none⟩ (.int .i64 (num s 7 2))).setCell ⟨b, 3, none⟩ (.int .i64 (num s 9 1))) := by
    refine run_loadVar_mid (P := Try.prog) _ b 0 127 [.int .i64 (num s 4 1), .int .i64 (num s 6 1), .int .i64 (num s 7 2), .int .i64 (num s 9 1)] _ (fun j v hv => ?_) Try.underlying127 rfl info_head
    rw [Nat.zero_add]
    rcases j with _ | _ | _ | _ | j
    · cases hv; go_simp
    · cases hv; go_simp
    · cases hv; go_simp
    · cases hv; go_simp
    · cases hv
  refine bodyPost_ret (v := .agg #[.int .i64 (num s 4 1), .int .i64 (num s 6 1), .int .i64 (num s 7 2), .int .i64 (num s 9 1)]) (eResults_load1 Try.results100 rfl hfin) rfl ⟨rfl, ?_⟩
  rw [hb]
  exact ((((HB5.out.setCell (p := ⟨b + 1 + 1, 3, none⟩) (by simp; omega) _).setCell (p := ⟨b, 0, none⟩) (Nat.le_refl _) _).setCell (p := ⟨b, 1, none⟩) (Nat.le_refl _) _).setCell (p := ⟨b, 2, none⟩) (Nat.le_refl _) _).setCell (p := ⟨b, 3, none⟩) (Nat.le_refl _) _
end Go.Proofs.Ytoaaklhpmhjhkaa
