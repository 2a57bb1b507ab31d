/-
  munchkeep's turned.
-/
import Derived.Test.YtoaaklhpmhjhkabTnA
import Derived.Test.YtoaaklhpmhjhkabKpA
import Derived.StillTailTactics
namespace Go.Proofs.Ytoaaklhpmhjhkab
open Go.RowKit

/-- Bytes that may be written over. -/
def BL (g : Nat) (l : List UInt8) (w : World) : Prop := ∀ j (h : j < l.length), w.cell? ⟨g, j, none⟩ = some (.int .u8 (l[j].toNat : Int)) ∧ w.frozen? ⟨g, j, none⟩ = false
theorem BL.set {g : Nat} {l : List UInt8} {w : World} (h : BL g l w) (q : Nat) (x : UInt8) : BL g (l.set q x) (w.setCell ⟨g, q, none⟩ (.int .u8 (x.toNat : Int))) := fun j hj => by
  rw [List.length_set] at hj
  rw [World.frozen?_setCell]
  obtain ⟨c, f⟩ := h j hj
  refine ⟨?_, f⟩
  by_cases e : q = j
  · subst e
    rw [World.cell?_setCell_same w ⟨g, q, none⟩ _ (by rw [c]), List.getElem_set_self]
  · rw [World.cell?_setCell_other _ _ _ _ (by intro he; cases he; exact e rfl), List.getElem_set_ne e]; exact c
/-- What is turned over lies from a on, within k bits. -/
def Trn (F l : List UInt8) (a k : Nat) : Prop := l.length = F.length ∧ ∀ i, i < 8 * F.length → msg F i ≠ msg l i → a ≤ i ∧ i < a + k
theorem Trn.mono {F l : List UInt8} {a k m : Nat} (h : Trn F l a k) (hm : k ≤ m) : Trn F l a m := ⟨h.1, fun i hi hn => by have := h.2 i hi hn; omega⟩
theorem Trn.turn {F l : List UInt8} {a k : Nat} (h : Trn F l a k) (hq : (a + k) / 8 < l.length) (x : UInt8) (hx : x.toNat = (l[(a + k) / 8]'hq).toNat ^^^ 2 ^ (7 - (a + k) % 8)) : Trn F (l.set ((a + k) / 8) x) a (k + 1) := by
  refine ⟨by rw [List.length_set]; exact h.1, fun i hi hn => ?_⟩
  by_cases e : i = a + k
  · omega
  · have hm : msg (l.set ((a + k) / 8) x) i = msg l i := by
      unfold msg
      rw [List.length_set]
      by_cases e8 : i / 8 = (a + k) / 8
      · have hg : (l.set ((a + k) / 8) x).getD (i / 8) 0 = x := by
          rw [List.getD_eq_getElem?_getD, e8, List.getElem?_set_self hq]; rfl
        have hg2 : l.getD (i / 8) 0 = l[(a + k) / 8] := by
          rw [List.getD_eq_getElem?_getD, e8, List.getElem?_eq_getElem hq]; rfl
        rw [hg, hg2, hx, Nat.testBit_xor, Nat.testBit_two_pow]
        have : (7 - (a + k) % 8 = 7 - i % 8) = False := by
          apply eq_false
          omega
        simp [this]
      · have hg : (l.set ((a + k) / 8) x).getD (i / 8) 0 = l.getD (i / 8) 0 := by
          rw [List.getD_eq_getElem?_getD, List.getD_eq_getElem?_getD, List.getElem?_set_ne (fun h => e8 h.symm)]
        rw [hg]
    rw [hm] at hn
    have := h.2 i hi hn
    omega

set_option maxRecDepth 100000 in
set_option maxHeartbeats 4000000 in
theorem turned_any (F : ByteArray) (a : Nat) (mask : Int) (w : World) (hF : F.size ≤ 1000000) (ha : a ≤ 8000000) :
    Calls Try.prog 14 #[.string F, .int .i64 a, .int .i64 mask] w fun e w' => ∃ l : List UInt8, e = .returned (.string ⟨l.toArray⟩) ∧ Trn F.data.toList l a 32 ∧ Below w.heap.size w w' := by
  obtain ⟨cp, hcp⟩ : ∃ cp, cp = grownCap w F.size 0 5 := ⟨_, rfl⟩
  have hcv := run_bytes_of_string (P := Try.prog) w 9 78 5 F Try.underlying9 Try.underlying78 Try.underlying5
  rw [← hcp] at hcv
  obtain ⟨W, hW⟩ : ∃ W, W = w.drew.alloc (.cells (bytesRow F cp) 5 ((bytesRow F cp).size, (bytesRow F cp).size + 1)) := ⟨_, rfl⟩
  rw [← hW] at hcv
  have hB : Below w.heap.size w W := by rw [hW]; exact (Below.refl _ _).drew.alloc (Nat.le_refl _) _
  have hL : BL w.heap.size F.data.toList W := by
    intro j hj
    have hj' : j < F.data.size := by simpa using hj
    have hrow : (bytesRow F cp)[j]? = some (.int .u8 (F.data.toList[j].toNat : Int)) := by
      unfold bytesRow
      rw [Array.getElem?_append_left (by simpa using hj')]
      simp
      exact ⟨F.data[j], Array.getElem?_eq_getElem hj', rfl⟩
    have hsz : (bytesRow F cp).size = F.data.size + (cp - F.size) := by unfold bytesRow; simp
    have hh : W.heap[w.heap.size]? = some (.cells (bytesRow F cp) 5 ((bytesRow F cp).size, (bytesRow F cp).size + 1)) := by
      rw [hW]
      show (w.heap.push _)[w.heap.size]? = _
      simp
    refine ⟨?_, ?_⟩
    · rw [cell_of_row W w.heap.size j (bytesRow F cp) _ _ hh]; exact hrow
    · simp [World.frozen?, hh]
      omega
  have H0 : Hid (Trn F.data.toList F.data.toList a 0) := ⟨rfl, fun i _ hn => absurd rfl hn⟩
  have HL : Hid (BL w.heap.size F.data.toList W) := hL
  have hlen : F.data.toList.length = F.size := by simp
  have Hlen : Hid (F.data.toList.length = F.size) := hlen
  clear hW hL hcp hlen
  go_enter Try.func14, Try.ntmps14
  go_wp2_with fail
  clear hcv
  go_loopw [8] (fun kv w' => ∃ (k : Nat) (l : List UInt8), kv = .int .i64 k ∧ k ≤ 32 ∧ BL w.heap.size l w' ∧ Hid (Trn F.data.toList l a k) ∧ Below w.heap.size w w') (fun kv _ => 32 - (intOf kv).toNat)
  case atStart => exact ⟨0, F.data.toList, rfl, by omega, HL.out, H0, hB⟩
  case round =>
    obtain ⟨k, l, rfl, hk, hBL, HT, hB2⟩ := hrel
    by_cases hlt : k < 32
    · have hlt' : (k : Int) < 32 := by omega
      obtain ⟨i, hi⟩ : ∃ i : Nat, (a : Int) + (k : Int) = (i : Int) := ⟨a + k, by omega⟩
      have hib : i ≤ 8000032 := by omega
      go_wp2_with fail
      all_goals first
        | (refine ⟨⟨k + 1, l, by go_num, by omega, hBL, HT.out.mono (by omega), hB2⟩, ?_⟩; simp [intOf]; omega)
        | skip
      rename_i hc1 hc2
      obtain ⟨q, hq⟩ : ∃ q : Nat, q = i / 8 := ⟨_, rfl⟩
      obtain ⟨r, hr⟩ : ∃ r : Nat, r = i % 8 := ⟨_, rfl⟩
      have iq : (i : Int) / 8 = (q : Int) := by omega
      have ir : (i : Int) % 8 = (r : Int) := by omega
      have irt : (i : Int).tmod 8 = (r : Int) := by rw [Int.tmod_eq_emod_of_nonneg (by omega)]; omega
      have iqt : (i : Int).tdiv 8 = (q : Int) := by rw [Int.tdiv_eq_ediv_of_nonneg (by omega)]; omega
      obtain ⟨m, im⟩ : ∃ m : Nat, 7 - (r : Int) = (m : Int) := ⟨7 - r, by omega⟩
      have hm7 : m ≤ 7 := by omega
      have hqb : q ≤ 1000010 := by omega
      have hrb : r ≤ 7 := by omega
      rw [iq] at hc2
      have hll : l.length = F.size := by rw [HT.out.1, Hlen.out]
      have hql : q < l.length := by omega
      obtain ⟨c0, f0⟩ := hBL q hql
      obtain ⟨b, hb⟩ : ∃ b : Nat, b = l[q].toNat := ⟨_, rfl⟩
      have hb256 : b < 256 := by rw [hb]; exact l[q].toNat_lt
      rw [← hb] at c0
      have Hb : Hid (b = l[q].toNat) := hb
      have Hq : Hid (q = i / 8) := hq
      have Hm : Hid (m = 7 - i % 8) := by show _ = _; omega
      have Hi : Hid (i = a + k) := by show _ = _; omega
      have HBL : Hid (BL w.heap.size l wr.drew) := hBL
      have Hql : Hid (q < l.length) := hql
      clear hc1 hb hq hr hll hBL
      refine wp_region_still_tail 14 (by kernel_rfl) (by kernel_rfl) ?_
      simp only [List.take_succ_cons, List.take_zero, List.drop_succ_cons, List.drop_zero]
      change wpStill _ _ wr.drew (fun a' => wpList _ _ _ _ a' wr.drew) _ _
      have c1 : wr.drew.cell? ⟨w.heap.size, q, none⟩ = some (.int .u8 (b : Int)) := c0
      have f1 : wr.drew.frozen? ⟨w.heap.size, q, none⟩ = false := f0
      clear c0 f0
      repeat still_step
      have hwq : IntKind.i64.wrap (q : Int) = (q : Int) := by simp [IntKind.wrap, IntKind.bits, IntKind.signed]; omega
      rw [hwq]
      repeat still_step
      have hwm : IntKind.i64.wrap (m : Int) = (m : Int) := by simp [IntKind.wrap, IntKind.bits, IntKind.signed]; omega
      rw [hwm]
      repeat still_step
      refine wpStill_nil ?_
      have hpw : (2 : Nat) ^ m < 256 := Nat.lt_of_le_of_lt (Nat.pow_le_pow_right (by omega) hm7) (by decide)
      have hv : bits BinOp.xor IntKind.u8 (b : Int) (IntKind.u8.wrap (2 ^ m)) = ((b ^^^ 2 ^ m : Nat) : Int) := by
        have e : IntKind.u8.wrap ((2 : Int) ^ m) = ((2 ^ m : Nat) : Int) := by
          rw [IntKind.wrap_u8', show ((2 : Int) ^ m) = ((2 ^ m : Nat) : Int) by simp]
          exact Int.emod_eq_of_lt (Int.natCast_nonneg _) (Int.ofNat_lt.2 hpw)
        rw [e]
        exact u8_xor_nat b (2 ^ m) hb256 hpw
      rw [hv]
      have hxl : b ^^^ 2 ^ m < 256 := Nat.xor_lt_two_pow (n := 8) hb256 hpw
      obtain ⟨x, hx⟩ : ∃ x : UInt8, x.toNat = b ^^^ 2 ^ m := ⟨UInt8.ofNat (b ^^^ 2 ^ m), by rw [UInt8.toNat_ofNat']; omega⟩
      rw [← hx]
      have HX : Hid (x.toNat = b ^^^ 2 ^ m) := hx
      have S2 := HBL.out.set q x
      have HS2 : Hid (BL w.heap.size (l.set q x) (wr.drew.setCell ⟨w.heap.size, q, none⟩ (.int .u8 (x.toNat : Int)))) := S2
      have HT2 : Hid (Trn F.data.toList (l.set q x) a (k + 1)) := by
        have e1 : q = (a + k) / 8 := by rw [Hq.out, Hi.out]
        have e2 : 7 - (a + k) % 8 = m := by rw [Hm.out, Hi.out]
        subst e1
        exact HT.out.turn hql x (by rw [HX.out, Hb.out, e2])
      have HB3 : Hid (Below w.heap.size w (wr.drew.setCell ⟨w.heap.size, q, none⟩ (.int .u8 (x.toNat : Int)))) := (hB2.trans (Below.refl _ _).drew).setCell (p := ⟨w.heap.size, q, none⟩) (Nat.le_refl _) _
      clear hv hx hxl S2 hwm hwq hpw
      go_wp2_with fail
      go_roundw
      case rel => exact ⟨k + 1, l.set q x, by go_num, by omega, HS2.out, HT2, HB3.out⟩
      case measure => simp [intOf]; omega
    · have hge : ¬ (k : Int) < 32 := by omega
      have hk32 : k = 32 := by omega
      subst hk32
      have hll : l.length = F.size := by rw [HT.out.1, Hlen.out]
      have hcv : (convert 78 9 (.slice (some ⟨w.heap.size, 0, none⟩) F.size cp)).run Try.prog wr = .ok (.string ⟨l.toArray⟩) wr := by
        rw [← hll]
        exact run_convert_bytes_back (P := Try.prog) wr 78 9 5 ⟨w.heap.size, 0, none⟩ cp l Try.underlying78 Try.underlying5 Try.underlying9 (fun j hj => by
          rw [Addr.add_lit, Nat.zero_add]; exact (hBL j hj).1)
      clear hll hBL
      go_wp2_with fail
      go_ret
      exact ⟨l, rfl, HT.out, hB2⟩
end Go.Proofs.Ytoaaklhpmhjhkab
