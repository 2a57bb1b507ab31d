/-
  munchkeep's pick and classes.
-/
import Derived.Test.YtoaaklhpmhjhkaaEncC
import Derived.Test.YtoaaklhpmhjhkaaBsA
namespace Go.Proofs.Ytoaaklhpmhjhkaa
open Go.RowKit
open Bm

/-- A number that an int can be. -/
def InI (x : Int) : Prop := -9223372036854775808 ≤ x ∧ x ≤ 9223372036854775807

/-- Which of n things a number speaks of. -/
def pickN (c : Int) (n : Nat) : Nat := (if c < 0 then (-(c + 1)).toNat else c.toNat) % n
theorem pickN_lt (c : Int) {n : Nat} (h : 1 ≤ n) : pickN c n < n := Nat.mod_lt _ h

set_option maxHeartbeats 1000000 in
theorem pick_any (c : Int) (n : Nat) (w : World) (hc : InI c) (h1 : 1 ≤ n) (h2 : n ≤ 1000000000000000000) :
    Calls Try.prog 59 #[.int .i64 c, .int .i64 n] w fun e w' => e = .returned (.int .i64 (pickN c n)) ∧ w' = w := by
  obtain ⟨hc1, hc2⟩ := hc
  have hn0 : ((n : Int) == 0) = false := beq_eq_false_iff_ne.2 (by omega)
  have hn1 : (n : Int) ≠ 0 := by omega
  have hn2 : ((n : Int) == -1) = false := beq_eq_false_iff_ne.2 (by omega)
  by_cases h : c < 0
  · obtain ⟨m, hm⟩ : ∃ m : Nat, -(c + 1) = (m : Int) := ⟨(-(c + 1)).toNat, by omega⟩
    have HP : Hid (pickN c n = m % n) := by show _ = _; unfold pickN; rw [if_pos h, hm, Int.toNat_natCast]
    have hmb : (m : Int) ≤ 9223372036854775807 := by omega
    have hmod : (m : Int).tmod (n : Int) = ((m % n : Nat) : Int) := by rw [Int.tmod_eq_emod_of_nonneg (by omega)]; simp
    have hlt := Nat.mod_lt m (show n > 0 by omega)
    go_enter Try.func59, Try.ntmps59
    go_wp2_with fail
    go_ret
    exact ⟨ret_int (by rw [HP.out]; omega), rfl⟩
  · obtain ⟨m, rfl⟩ := Int.eq_ofNat_of_zero_le (show 0 ≤ c by omega)
    have HP : Hid (pickN m n = m % n) := by show _ = _; unfold pickN; rw [if_neg (by omega), Int.toNat_natCast]
    have hmod : (m : Int).tmod (n : Int) = ((m % n : Nat) : Int) := by rw [Int.tmod_eq_emod_of_nonneg (by omega)]; simp
    have hlt := Nat.mod_lt m (show n > 0 by omega)
    go_enter Try.func59, Try.ntmps59
    go_wp2_with fail
    go_ret
    exact ⟨ret_int (by rw [HP.out]; omega), rfl⟩
theorem clsTo_congr2 {f g : Nat → Int} : ∀ {k : Nat}, (∀ i, i < k → f i = g i) → clsTo f k = clsTo g k
  | 0, _ => rfl
  | k + 1, h => by rw [clsTo, clsTo, clsTo_congr2 (fun i hi => h i (by omega)), h k (by omega)]
theorem clsTo_old {f : Nat → Int} {k n : Nat} (h : clsTo f k = some n) (h0 : 0 ≤ f k) (h1 : f k < n) : clsTo f (k + 1) = some n := by
  rw [clsTo, h]
  simp only
  rw [if_neg (by omega), if_neg (by omega)]
theorem clsTo_new {f : Nat → Int} {k n : Nat} (h : clsTo f k = some n) (h0 : f k = n) : clsTo f (k + 1) = some (n + 1) := by
  rw [clsTo, h]
  simp only
  rw [if_neg (by omega), if_pos h0]
theorem bel_box' (w : World) (o : Obj) : Below w.heap.size w (w.alloc o) := (Below.refl _ _).alloc (Nat.le_refl _) o
structure KC (w : World) (n b : Nat) (f sn : Nat → Int) (W : World) : Prop where
  o : NRow w.heap.size f 256 W
  s : NRow (w.heap.size + 1) sn 256 W
  sb : ∀ v, v < 256 → 0 ≤ sn v ∧ sn v ≤ n
  c : clsTo f b = some n
  n1 : 1 ≤ b → 1 ≤ n
  bel : Below w.heap.size w W
theorem nrow_other {g g' : Nat} {f : Nat → Int} {n j : Nat} {v : Value} {W : World} (h : NRow g f n W) (hne : g ≠ g') : NRow g f n (W.setCell ⟨g', j, none⟩ v) := fun k hk => by
  have hb := Below.heap_setCell W ⟨g', j, none⟩ v g (fun e => hne e)
  rw [World.cell?_of_block (w := W) (a := ⟨g, k, none⟩) hb, World.frozen?_of_block (w := W) (a := ⟨g, k, none⟩) hb]; exact h k hk
/-- A new class. -/
theorem KC.new {w : World} {n b v : Nat} {f sn : Nat → Int} {W : World} (h : KC w n b f sn W) (hb : b < 256) (hv : v < 256) :
    KC w (n + 1) (b + 1) (fun k => if k = b then (n : Int) else f k) (fun k => if k = v then (n : Int) + 1 else sn k) ((W.setCell ⟨w.heap.size + 1, v, none⟩ (.int .i64 ((n : Int) + 1))).setCell ⟨w.heap.size, b, none⟩ (.int .i64 n)) := by
  refine ⟨?_, ?_, fun u hu => ?_, ?_, fun _ => by omega, ?_⟩
  · exact (nrow_other h.o (by omega)).set b hb n
  · exact nrow_other (h.s.set v hv _) (by omega)
  · have := h.sb u hu
    by_cases e : u = v
    · simp [e]; omega
    · simp [e]; omega
  · refine clsTo_new ?_ (by simp)
    rw [clsTo_congr2 (g := f) (fun i hi => by simp [show i ≠ b by omega])]; exact h.c
  · exact (h.bel.setCell (p := ⟨w.heap.size + 1, v, none⟩) (Nat.le_succ _) _).setCell (p := ⟨w.heap.size, b, none⟩) (Nat.le_refl _) _
theorem KC.old {w : World} {n b v : Nat} {f sn : Nat → Int} {W : World} (h : KC w n b f sn W) (hb : b < 256) (hv : v < 256) (h0 : sn v ≠ 0) :
    KC w n (b + 1) (fun k => if k = b then sn v - 1 else f k) sn (W.setCell ⟨w.heap.size, b, none⟩ (.int .i64 (sn v - 1))) := by
  have := h.sb v hv
  refine ⟨?_, ?_, h.sb, ?_, fun _ => by omega, ?_⟩
  · exact h.o.set b hb _
  · exact nrow_other h.s (by omega)
  · refine clsTo_old ?_ (by simp; omega) (by simp; omega)
    rw [clsTo_congr2 (g := f) (fun i hi => by simp [show i ≠ b by omega])]; exact h.c
  · exact h.bel.setCell (p := ⟨w.heap.size, b, none⟩) (Nat.le_refl _) _

set_option maxRecDepth 100000 in
set_option maxHeartbeats 4000000 in
theorem keepClasses_any (s : ByteArray) (w : World) (hs : s.size ≤ 140737488355328) :
    Calls Try.prog 60 #[.string s] w fun e w' => ∃ (n : Nat) (f : Nat → Int), 1 ≤ n ∧ n ≤ 256 ∧ clsTo f 256 = some n ∧ e = .returned (.tuple #[.slice (some ⟨w.heap.size, 0, none⟩) 256 256, .int .i64 n]) ∧ NRow w.heap.size f 256 w' ∧ Below w.heap.size w w' := by
  have hm1 : (Instr.makeSlice 24 (.int .i64 256) (.int .i64 256)).run Try.prog w = .ok (.slice (some ⟨w.heap.size, 0, none⟩) 256 256) (w.alloc (.cells (blankI 256) 3)) := run_blankI w 256 (by omega)
  obtain ⟨W1, hW1⟩ : ∃ W, W = w.alloc (.cells (blankI 256) 3) := ⟨_, rfl⟩
  have z1 : W1.heap.size = w.heap.size + 1 := by rw [hW1]; simp
  have hm2 : (Instr.makeSlice 24 (.int .i64 256) (.int .i64 256)).run Try.prog W1 = .ok (.slice (some ⟨W1.heap.size, 0, none⟩) 256 256) (W1.alloc (.cells (blankI 256) 3)) := run_blankI W1 256 (by omega)
  obtain ⟨W2, hW2⟩ : ∃ W, W = W1.alloc (.cells (blankI 256) 3) := ⟨_, rfl⟩
  have b1 : Below w.heap.size w W1 := by rw [hW1]; exact bel_box' w _
  have b2 : Below W1.heap.size W1 W2 := by rw [hW2]; exact bel_box' W1 _
  have n1 : NRow w.heap.size (fun _ => 0) 256 W1 := by rw [hW1]; exact NRow.blank w 256 _
  have n2 : NRow W1.heap.size (fun _ => 0) 256 W2 := by rw [hW2]; exact NRow.blank W1 256 _
  rw [← hW1] at hm1
  rw [← hW2, z1] at hm2
  rw [z1] at n2
  have S0 : KC w 0 0 (fun _ => 0) (fun _ => 0) W2 := ⟨n1.below b2, n2, fun v _ => by simp, rfl, fun h => by omega, b1.trans (b2.mono b1.size)⟩
  clear hW1 hW2 b1 b2 n1 n2 z1
  go_enter Try.func60, Try.ntmps60
  go_wp2_with fail
  clear hm1 hm2
  go_loopw [6, 7] (fun x y w' => ∃ (n b : Nat) (f sn : Nat → Int), b ≤ 256 ∧ x = .int .i64 n ∧ y = .int .i64 b ∧ KC w n b f sn w') (fun _ y _ => 256 - (intOf y).toNat)
  case atStart => exact ⟨0, 0, _, _, by omega, rfl, rfl, S0⟩
  case round =>
    clear S0
    obtain ⟨n, b, f, sn, hb, rfl, rfl, S⟩ := hrel
    have hnb := clsTo_le S.c
    by_cases hlt : b < 256
    · have hlt' : (b : Int) < 256 := by omega
      have HS : Hid (KC w n b f sn wr) := S
      clear S
      have fin : ∀ v : Nat, v < 256 → ∃ x, x = sn v ∧ wr.cell? ⟨w.heap.size + 1, v, none⟩ = some (.int .i64 x) ∧ wr.frozen? ⟨w.heap.size + 1, v, none⟩ = false ∧ wr.cell? ⟨w.heap.size, b, none⟩ = some (.int .i64 (f b)) ∧ wr.frozen? ⟨w.heap.size, b, none⟩ = false ∧ 0 ≤ x ∧ x ≤ n := fun v hv =>
        ⟨sn v, rfl, (HS.out.s v hv).1, (HS.out.s v hv).2, (HS.out.o b hlt).1, (HS.out.o b hlt).2, HS.out.sb v hv⟩
      have HFin : Hid (∀ v : Nat, v < 256 → ∃ x, x = sn v ∧ wr.cell? ⟨w.heap.size + 1, v, none⟩ = some (.int .i64 x) ∧ wr.frozen? ⟨w.heap.size + 1, v, none⟩ = false ∧ wr.cell? ⟨w.heap.size, b, none⟩ = some (.int .i64 (f b)) ∧ wr.frozen? ⟨w.heap.size, b, none⟩ = false ∧ 0 ≤ x ∧ x ≤ n) := fin
      clear fin
      by_cases hz : s.size = 0
      · have hz' : ¬ (0 : Int) < (s.size : Int) := by omega
        obtain ⟨x, hx, c1, c1f, c2, c2f, x0, xn⟩ := HFin.out 0 (by omega)
        have Hx : Hid (x = sn 0) := hx
        clear hx hz
        by_cases he : x = 0
        · subst he
          have S2 := HS.out.new hlt (v := 0) (by omega)
          have HS2 : Hid (KC w (n + 1) (b + 1) (fun k => if k = b then (n : Int) else f k) (fun k => if k = 0 then (n : Int) + 1 else sn k) ((wr.setCell ⟨w.heap.size + 1, 0, none⟩ (.int .i64 ((n : Int) + 1))).setCell ⟨w.heap.size, b, none⟩ (.int .i64 n))) := S2
          clear S2
          go_wp2_with fail
          go_roundw
          case rel => exact ⟨n + 1, b + 1, _, _, by omega, by go_num, by go_num, HS2.out⟩
          case measure => simp [intOf]; omega
        · have S2 := HS.out.old hlt (v := 0) (by omega) (by rw [← Hx.out]; exact he)
          rw [← Hx.out] at S2
          have HS2 : Hid (KC w n (b + 1) (fun k => if k = b then x - 1 else f k) sn (wr.setCell ⟨w.heap.size, b, none⟩ (.int .i64 (x - 1)))) := S2
          have q1 : (x == 0) = false := by simpa using he
          clear S2
          go_wp2_with fail
          go_roundw
          case rel => exact ⟨n, b + 1, _, _, by omega, rfl, by go_num, HS2.out⟩
          case measure => simp [intOf]; omega
      · have hz' : (0 : Int) < (s.size : Int) := by omega
        have hmod : (b : Int).tmod (s.size : Int) = ((b % s.size : Nat) : Int) := by rw [Int.tmod_eq_emod_of_nonneg (by omega)]; simp
        have hjl := Nat.mod_lt b (show s.size > 0 by omega)
        have hn0 : ((s.size : Int) == 0) = false := beq_eq_false_iff_ne.2 (by omega)
        have hn1 : (s.size : Int) ≠ 0 := by omega
        have hn2 : ((s.size : Int) == -1) = false := beq_eq_false_iff_ne.2 (by omega)
        obtain ⟨j, hj⟩ : ∃ j, j = b % s.size := ⟨_, rfl⟩
        rw [← hj] at hmod hjl
        clear hj
        have hjl' : (j : Int) < (s.size : Int) := by omega
        have hbx := s[j].toNat_lt
        obtain ⟨x, hx, c1, c1f, c2, c2f, x0, xn⟩ := HFin.out s[j].toNat hbx
        have Hx : Hid (x = sn s[j].toNat) := hx
        clear hx hz
        by_cases he : x = 0
        · subst he
          have S2 := HS.out.new hlt (v := s[j].toNat) hbx
          have HS2 : Hid (KC w (n + 1) (b + 1) (fun k => if k = b then (n : Int) else f k) (fun k => if k = s[j].toNat then (n : Int) + 1 else sn k) ((wr.setCell ⟨w.heap.size + 1, s[j].toNat, none⟩ (.int .i64 ((n : Int) + 1))).setCell ⟨w.heap.size, b, none⟩ (.int .i64 n))) := S2
          clear S2
          go_wp2_with fail
          go_roundw
          case rel => exact ⟨n + 1, b + 1, _, _, by omega, by go_num, by go_num, HS2.out⟩
          case measure => simp [intOf]; omega
        · have S2 := HS.out.old hlt (v := s[j].toNat) hbx (by rw [← Hx.out]; exact he)
          rw [← Hx.out] at S2
          have HS2 : Hid (KC w n (b + 1) (fun k => if k = b then x - 1 else f k) sn (wr.setCell ⟨w.heap.size, b, none⟩ (.int .i64 (x - 1)))) := S2
          have q1 : (x == 0) = false := by simpa using he
          clear S2
          go_wp2_with fail
          go_roundw
          case rel => exact ⟨n, b + 1, _, _, by omega, rfl, by go_num, HS2.out⟩
          case measure => simp [intOf]; omega
    · have hge : ¬ (b : Int) < 256 := by omega
      have hbe : b = 256 := by omega
      subst hbe
      go_wp2_with fail
      go_ret2
      exact ⟨n, S.n1 (by omega), hnb, f, S.c, by first | rfl | trivial, S.o, S.bel⟩
end Go.Proofs.Ytoaaklhpmhjhkaa
