/-
  Contract of the reference's numbers.
-/
import Derived.Test.YtoaaklhpmhjhkaaLdI
namespace Go.Proofs.Ytoaaklhpmhjhkaa
open Go.RowKit

set_option maxRecDepth 100000 in
set_option maxHeartbeats 1000000 in
theorem numbers_any (s : ByteArray) (i n k : Nat) (d : Int) (w : World) (hs : s.size ≤ 1000000) (hk : k = 1 ∨ k = 2) (hd : 0 ≤ d ∧ d ≤ 1) (hi : i + n * k ≤ s.size) :
    Calls Try.prog 73 #[.string s, .int .i64 i, .int .i64 n, .int .i64 k, .int .i64 d] w fun e w' => ∃ g, e = .returned (.slice (some ⟨g, 0, none⟩) n n) ∧ w.heap.size ≤ g ∧ NRow g (lst s i k d) n w' ∧ Below w.heap.size w w' := by
  have hn : n ≤ 1000000 := by rcases hk with rfl | rfl <;> omega
  have hmk := run_blankI w n (by omega)
  obtain ⟨W, hW⟩ : ∃ W, W = w.alloc (.cells (blankI n) 3) := ⟨_, rfl⟩
  have hN0 : NRow w.heap.size (fun _ => 0) n W := by rw [hW]; exact NRow.blank w n _
  have hB0 : Below w.heap.size w W := by rw [hW]; exact bel_box _ _
  rw [← hW] at hmk
  clear hW
  go_enter Try.func73, Try.ntmps73
  go_wp2_with fail
  generalize hg : w.heap.size = g at *
  go_loopw [12] (fun x w' => ∃ j : Nat, j ≤ n ∧ x = .int .i64 j ∧ NRow g (fun q => if q < j then lst s i k d q else 0) n w' ∧ Below g w w') (fun x _ => n - (intOf x).toNat)
  case atStart => exact ⟨0, by omega, rfl, hN0.congr (fun q _ => by simp), hB0⟩
  case round =>
    clear hN0 hB0 hmk
    obtain ⟨j, hj, rfl, hR, hB⟩ := hrel
    by_cases hlt : j < n
    · have hlt' : (j : Int) < (n : Int) := by omega
      have hjk : i + j * k + k ≤ s.size := by
        have : (j + 1) * k ≤ n * k := Nat.mul_le_mul_right k hlt
        rw [Nat.add_mul] at this; omega
      have HL : Hid (lst s i k d j = num s (i + j * k) k - d) := rfl
      obtain ⟨m, hm⟩ : ∃ m, m = j * k := ⟨_, rfl⟩
      have im : (j : Int) * (k : Int) = (m : Int) := by rw [hm]; simp
      rw [← hm] at HL hjk
      clear hm
      go_wp2_with fail
      go_loopw [13, 14] (fun x y w' => ∃ t : Nat, t ≤ k ∧ y = .int .i64 t ∧ x = .int .i64 (num s (i + m) t) ∧ w' = wr) (fun _ y _ => k - (intOf y).toNat)
      case atStart => exact ⟨0, by omega, rfl, rfl, rfl⟩
      case round =>
        obtain ⟨t, ht, rfl, rfl, rfl⟩ := hrel
        by_cases htl : t < k
        · have htl' : (t : Int) < (k : Int) := by omega
          have hnb := num_bd s (i + m) t (by omega)
          have hin : i + m + t < s.size := by omega
          have hf := s[i + m + t].toNat_lt
          have HF : Hid ((s[i + m + t].toNat : Int) = fb s (i + m + t)) := fb_at s (i + m + t) hin
          have HN : Hid (num s (i + m) (t + 1) = num s (i + m) t * 256 + fb s (i + m + t)) := rfl
          have hk2 : (k : Int) ≤ 2 := by omega
          go_wp2_with fail
          go_roundw
          case rel => exact ⟨t + 1, by omega, by go_num, by rw [HN.out, ← HF.out], trivial⟩
          case measure => simp [intOf]; omega
        · have hge : ¬ (t : Int) < (k : Int) := by omega
          have htk : t = k := by omega
          subst htk
          have hnb := num_bd s (i + m) t (by omega)
          obtain ⟨c1, c2⟩ := hR j hlt
          have hR3 := hR.set j hlt (num s (i + m) t - d)
          have hB3 := hB.setCell (p := ⟨g, j, none⟩) (Nat.le_refl _) (.int .i64 (num s (i + m) t - d))
          go_wp2_with fail
          go_roundw
          case rel =>
            refine ⟨j + 1, by omega, by go_num, hR3.congr (fun q _ => ?_), hB3⟩
            by_cases e : q = j
            · subst e; simp [HL.out]
            · by_cases e1 : q < j
              · simp [e, e1, show q < j + 1 by omega]
              · simp [e, e1, show ¬ q < j + 1 by omega]
          case measure => simp [intOf]; omega
    · have hge : ¬ (j : Int) < (n : Int) := by omega
      have hjn : n = j := by omega
      subst hjn
      go_wp2_with fail
      go_ret
      exact ⟨g, rfl, Nat.le_refl _, hR.congr (fun q hq => by simp [hq]), hB⟩
end Go.Proofs.Ytoaaklhpmhjhkaa
