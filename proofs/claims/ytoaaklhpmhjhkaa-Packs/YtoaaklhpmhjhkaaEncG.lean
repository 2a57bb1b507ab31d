/-
  Contracts of the program's Sum and seal.
-/
import Derived.Test.YtoaaklhpmhjhkaaEncB
import Derived.Test.YtoaaklhpmhjhkaaEncF
namespace Go.Proofs.Ytoaaklhpmhjhkaa
open Go.RowKit

theorem ones_xor (r : Nat) (h : r < 4294967296) : 4294967295 ^^^ r = 4294967295 - r := by
  apply Nat.eq_of_testBit_eq
  intro i
  rw [Nat.testBit_xor, show (4294967295 : Nat) = 2 ^ 32 - 1 from rfl, Nat.testBit_two_pow_sub_one, show 2 ^ 32 - 1 - r = 2 ^ 32 - (r + 1) by omega, Nat.testBit_two_pow_sub_succ (by omega)]
  by_cases hi : i < 32
  · simp [hi]
  · have : r.testBit i = false := Nat.testBit_lt_two_pow (Nat.lt_of_lt_of_le h (by
      have : 2 ^ 32 ≤ 2 ^ i := Nat.pow_le_pow_right (by omega) (by omega)
      simpa using this))
    simp [hi, this]
theorem bel_box' (w : World) (o : Obj) : Below w.heap.size w (w.alloc o) := (Below.refl _ _).alloc (Nat.le_refl _) o
/-- string(b). -/
theorem wpList_toString {w : World} {ops : Array Oper} {rest : List Oper} {o : Oper} {a : Act} {Q : Exit → Act → World → Prop} (hgd : o.guard = none) (x : Operand)
    (ho : o.op = .convert 106 9 x) (g n cap : Nat) (l : List UInt8) (hx : a.eval x = .slice (some ⟨g, 0, none⟩) n cap) (hn : l.length = n) (hc : ∀ j u, (bys l)[j]? = some u → w.cell? ⟨g, j, none⟩ = some u)
    (h : wpList Try.prog ops Q rest (a.put o.dst (.string ⟨l.toArray⟩)) w) : wpList Try.prog ops Q (o :: rest) a w :=
  wpList_plain hgd fun _ hK => by
    subst hn
    have hr := run_convert_bytes_back (P := Try.prog) w 106 9 5 ⟨g, 0, none⟩ cap l Try.underlying106 Try.underlying5 Try.underlying9 (fun j hj => by
      rw [Addr.add_lit, Nat.zero_add]
      refine hc j _ ?_
      simp [bys, hj])
    unfold Oper.wp execOp
    simp only [ho, Sem.run_bind, Sem.run_pure, Result.andThen_ok, hx, hr]
    exact hK _ _ h

set_option maxHeartbeats 1000000 in
theorem sumP_any (s : ByteArray) (w : World) (hs : s.size ≤ 1000000) :
    Calls Try.prog 128 #[.string s] w fun e w' => e = .returned (.int .u32 (crc s.data.toList)) ∧ w' = w := by
  have hl : s.data.toList.length = s.size := by simp
  go_enter Try.func128, Try.ntmps128
  go_wp2_with fail
  go_loop [3, 8] (fun x i => ∃ k r : Nat, k ≤ s.size ∧ i = .int .i64 k ∧ x = .int .u32 r ∧ r < 4294967296 ∧ Hid (r = reg s.data.toList (8 * k))) (fun _ i => s.size - (intOf i).toNat)
  case atStart => exact ⟨0, 4294967295, by omega, rfl, rfl, by omega, rfl⟩
  case round =>
    obtain ⟨k, r, hk, rfl, rfl, hr, HR⟩ := hrel
    by_cases hlt : k < s.size
    · have hlt' : (k : Int) < (s.size : Int) := by omega
      have HB : Hid (s.data.toList[k]'(by omega) = s[k]) := rfl
      go_wp2_with fail
      have hb := s[k].toNat_lt
      go_loop [3, 18] (fun x i => ∃ j y : Nat, j ≤ 8 ∧ i = .int .i64 j ∧ x = .int .u32 y ∧ y < 4294967296 ∧ Hid (y = reg s.data.toList (8 * k + j) ^^^ left24 s[k] j)) (fun _ i => 8 - (intOf i).toNat)
      case atStart =>
        refine ⟨0, r ^^^ left24 s[k] 0, by omega, rfl, ?_, ?_, ?_⟩
        · have e : ((s[k].toNat : Int) % 4294967296 * 16777216 % 4294967296) = ((left24 s[k] 0 : Nat) : Int) := by rw [left24_zero]; omega
          rw [e, u32_xor_nat r _ hr (left24_lt _ _)]
        · have : r ^^^ left24 s[k] 0 < 2 ^ 32 := Nat.xor_lt_two_pow (by omega) (by have := left24_lt s[k] 0; omega)
          omega
        · show _ = _
          rw [HR.out]; rfl
      case round =>
        obtain ⟨j, y, hj, rfl, rfl, hy, HY⟩ := hrel
        by_cases hjl : j < 8
        · have hjl' : (j : Int) < 8 := by omega
          have HST : Hid (crcStep y = reg s.data.toList (8 * k + (j + 1)) ^^^ left24 s[k] (j + 1)) := by
            show _ = _
            have := sum_step s.data.toList k j (by omega) hjl
            rw [show s.data.toList[k] = s[k] from HB.out] at this
            rw [HY.out]; exact this
          by_cases hh : 2147483648 ≤ y
          · have q1 : ((y : Int) / 2147483648 == 1) = true := by simp; omega
            have HC := crcStep_hi hh hy
            rw [HST.out] at HC
            have HC2 : Hid (reg s.data.toList (8 * k + (j + 1)) ^^^ left24 s[k] (j + 1) = (2 * y % 4294967296) ^^^ 79764919) := HC
            clear HC HST hh
            go_wp2_with fail
            go_round
            case rel =>
              refine ⟨j + 1, (2 * y % 4294967296) ^^^ 79764919, by omega, by go_num, ?_, ?_, HC2.out.symm⟩
              · have e : ((y : Int) * 2 % 4294967296) = ((2 * y % 4294967296 : Nat) : Int) := by omega
                rw [e]
                exact congrArg _ (u32_xor_nat (2 * y % 4294967296) 79764919 (by omega) (by omega))
              · have : (2 * y % 4294967296) ^^^ 79764919 < 2 ^ 32 := Nat.xor_lt_two_pow (by omega) (by omega)
                omega
            case measure => simp [intOf]; omega
          · have q1 : ((y : Int) / 2147483648 == 1) = false := by simp; omega
            have HC := crcStep_lo (show y < 2147483648 by omega)
            rw [HST.out] at HC
            have HC2 : Hid (reg s.data.toList (8 * k + (j + 1)) ^^^ left24 s[k] (j + 1) = 2 * y % 4294967296) := HC
            clear HC HST hh
            go_wp2_with fail
            go_round
            case rel =>
              refine ⟨j + 1, 2 * y % 4294967296, by omega, by go_num, ?_, by omega, HC2.out.symm⟩
              have e : ((y : Int) * 2 % 4294967296) = ((2 * y % 4294967296 : Nat) : Int) := by omega
              rw [e]
            case measure => simp [intOf]; omega
        · have hge : ¬ (j : Int) < 8 := by omega
          have hj8 : j = 8 := by omega
          subst hj8
          have HZ : Hid (y = reg s.data.toList (8 * (k + 1))) := by show _ = _; rw [HY.out, sum_byte]
          clear HY
          go_wp2_with fail
          go_round
          case rel => exact ⟨k + 1, y, by omega, by go_num, rfl, hy, HZ.out⟩
          case measure => simp [intOf]; omega
    · have hge : ¬ (k : Int) < (s.size : Int) := by omega
      have hkn : k = s.size := by omega
      have HE : Hid ((crc s.data.toList : Int) = 4294967295 - (r : Int)) := by
        show _ = _
        rw [crc, hl, ← hkn, ← HR.out]; omega
      clear HR
      go_wp2_with fail
      go_ret
      refine ⟨?_, rfl⟩
      show Ending.returned (.int .u32 (bits .xor .u32 IntKind.u32.max (r : Int))) = _
      rw [HE.out, show IntKind.u32.max = ((4294967295 : Nat) : Int) from rfl, u32_xor_nat 4294967295 r (by omega) hr, ones_xor r hr, Int.ofNat_sub (by omega)]
      rfl

theorem byte_cell (x : Nat) : Value.int .u8 ((x : Int) % 256) = .int .u8 ((byteOf (x : Int)).toNat : Int) := by rw [byteOf_toNat]

set_option maxRecDepth 100000 in
set_option maxHeartbeats 1000000 in
theorem seal_any (s : ByteArray) (w : World) (hs : s.size ≤ 1000000) :
    Calls Try.prog 97 #[.string s] w fun e w' => e = .returned (.string ⟨(sumL s.data.toList).toArray⟩) ∧ Below w.heap.size w w' := by
  have HS : Hid (Calls Try.prog 128 #[.string s] w fun e w' => e = .returned (.int .u32 (crc s.data.toList)) ∧ w' = w) := sumP_any s w hs
  have HL : Hid (sumL s.data.toList = [byteOf ((crc s.data.toList / 16777216 : Nat) : Int), byteOf ((crc s.data.toList / 65536 : Nat) : Int), byteOf ((crc s.data.toList / 256 : Nat) : Int), byteOf ((crc s.data.toList : Nat) : Int)]) := rfl
  generalize sumL s.data.toList = L at *
  generalize crc s.data.toList = c at *
  have hconv : (convert 106 9 (.slice (some ⟨w.heap.size, 0, none⟩) 4 4)).run Try.prog (w.alloc (.cells #[.int .u8 ((c : Int) / 16777216 % 256), .int .u8 ((c : Int) / 65536 % 256), .int .u8 ((c : Int) / 256 % 256), .int .u8 ((c : Int) % 256)] 5)) = .ok (.string ⟨L.toArray⟩) (w.alloc (.cells #[.int .u8 ((c : Int) / 16777216 % 256), .int .u8 ((c : Int) / 65536 % 256), .int .u8 ((c : Int) / 256 % 256), .int .u8 ((c : Int) % 256)] 5)) := by
    have hL : L.length = 4 := by rw [HL.out]; rfl
    have := run_convert_bytes_back (P := Try.prog) (w.alloc (.cells #[.int .u8 ((c : Int) / 16777216 % 256), .int .u8 ((c : Int) / 65536 % 256), .int .u8 ((c : Int) / 256 % 256), .int .u8 ((c : Int) % 256)] 5)) 106 9 5 ⟨w.heap.size, 0, none⟩ 4 L Try.underlying106 Try.underlying5 Try.underlying9 (fun j hj => by
      rw [Addr.add_lit, Nat.zero_add, World.cell?_alloc_new]
      have hj' : j < 4 := by omega
      have HLo := HL.out
      subst HLo
      rcases j with _ | _ | _ | _ | j
      · simp [byteOf_toNat]
      · simp [byteOf_toNat]
      · simp [byteOf_toNat]
      · simp [byteOf_toNat]
      · omega)
    rw [hL] at this; exact this
  go_enter Try.func97, Try.ntmps97
  go_wp2_with fail
  refine HS.out.mono ?_
  rintro e w ⟨rfl, rfl⟩
  go_wp2_with fail
  go_ret
  exact ⟨rfl, bel_box' _ _⟩
end Go.Proofs.Ytoaaklhpmhjhkaa
