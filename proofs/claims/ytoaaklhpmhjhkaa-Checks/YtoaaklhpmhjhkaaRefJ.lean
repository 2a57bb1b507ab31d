/-
  Contracts of the reference's size and places.
-/
import Derived.Test.YtoaaklhpmhjhkaaRefI
namespace Go.Proofs.Ytoaaklhpmhjhkaa
open Go.RowKit

theorem ext_mid (s : ByteArray) (k n : Nat) : (s.extract k (k + n)).data.toList = (s.data.toList.drop k).take n := by
  rw [ext_list, List.drop_take]; congr 1; omega

def PlacesAt (f : Nat) : Prop := ∀ (s : ByteArray) (v : Int) (w : World), s.size ≤ 40 → Rf.cnt f true s.data.toList = some v →
  Calls Try.prog 66 #[.string s] w fun e w' => e = .returned (.int .i64 v) ∧ Below w.heap.size w w'
def SizeAt (f : Nat) : Prop := ∀ (s : ByteArray) (v : Int) (w : World), s.size ≤ 40 → Rf.cnt f false s.data.toList = some v →
  Calls Try.prog 88 #[.string s] w fun e w' => e = .returned (.int .i64 v) ∧ Below w.heap.size w w'

set_option maxHeartbeats 2000000 in
theorem places_step (f : Nat) (ih : ∀ g, g < f → SizeAt g) : PlacesAt f := by
  intro s v w hs h
  have hv := Rf.cnt_small h (by simpa using hs)
  go_enter Try.func66, Try.ntmps66
  go_wp2_with fail
  go_loopw [3, 4] (fun n i w' => ∃ (g k : Nat) (a b : Int), g ≤ f ∧ i = .int .i64 k ∧ n = .int .i64 a ∧ 0 ≤ a ∧ k ≤ s.size ∧ a + b = v ∧ Below w.heap.size w w' ∧ Hid (Rf.cnt g true (s.data.toList.drop k) = some b)) (fun _ i _ => s.size - (intOf i).toNat)
  case atStart => exact ⟨f, 0, 0, v, Nat.le_refl _, rfl, rfl, by omega, by omega, by omega, Below.refl _ _, h⟩
  case round =>
    clear h
    obtain ⟨g, k, a, b, hg, rfl, rfl, ha, hks, hab, hW, HS⟩ := hrel
    rcases g with _ | g
    · exact absurd HS.out (by simp [Rf.cnt])
    have hI := HS.out
    have hb := Rf.cnt_small hI (by simp; omega)
    clear HS
    rcases hd : s.data.toList.drop k with _ | ⟨c, r⟩
    · simp only [Rf.cnt, hd, Option.some.injEq] at hI
      have hk : s.size ≤ k := by simpa using hd
      have HI : Hid (a = v) := by show _ = _; omega
      clear hd hI hab
      go_wp2_with fail
      go_ret
      exact ⟨ret_int HI.out, hW⟩
    obtain ⟨hk, hc, hr⟩ := at_of_drop hd
    simp only [Rf.cnt, hd] at hI
    by_cases e124 : c = 124
    · have hb124 : ((s[k].toNat : Int) == 124) = true := by rw [hc, e124]; rfl
      rw [if_pos e124, ← hr] at hI
      have HI : Hid (Rf.cnt g true (s.data.toList.drop (k + 1)) = some b) := hI
      have HA : Hid (a + b = v) := hab
      clear hI hd hc hr e124 hab
      go_wp2_with fail
      go_roundw
      case rel => exact ⟨g, k + 1, a, b, by omega, by go_num, rfl, ha, by omega, HA, hW, HI⟩
      case measure => simp [intOf]; omega
    have hb124 : ((s[k].toNat : Int) == 124) = false := by rw [hc]; exact bne_of e124
    rw [if_neg e124] at hI
    rcases hp : Rf.piece (c :: r) with _ | n
    · rw [hp] at hI; cases hI
    obtain ⟨hn1, hn2⟩ := Rf.piece_le hp
    rw [hp] at hI
    simp only at hI
    rcases hx : Rf.cnt g false ((c :: r).take n) with _ | x
    · rw [hx] at hI; simp at hI
    rcases hy : Rf.cnt g true ((c :: r).drop n) with _ | y
    · rw [hx, hy] at hI; simp at hI
    rw [hx, hy] at hI
    simp only [Option.some.injEq] at hI
    have hlen : (c :: r).length = s.size - k := by rw [← hd]; simp
    have hp' : Rf.piece (s.extract k s.size).data.toList = some n := by rw [ext_from, hd]; exact hp
    have hx' : Rf.cnt g false (s.extract k (k + n)).data.toList = some x := by rw [ext_mid, hd]; exact hx
    have hx0 := Rf.cnt_small hx (by rw [List.length_take]; omega)
    have hy0 := Rf.cnt_small hy (by rw [List.length_drop]; omega)
    have HY : Hid (Rf.cnt g true (s.data.toList.drop (k + n)) = some y) := by show _ = _; rw [← List.drop_drop, hd]; exact hy
    have HA : Hid (a + x + y = v) := by show _ = _; omega
    have ax : a + x ≤ 9094947017729282 := by omega
    have hkn : k + n ≤ s.size := by omega
    clear hI hd hc hr e124 hab hp hx hy
    go_wp2_with fail
    refine (piece_any _ n _ (ext_size s _ _ hs) hp').mono ?_
    rintro e w1 ⟨rfl, hW1⟩
    go_wp2_with fail
    refine (ih g (by omega) _ x _ (ext_size s _ _ hs) hx').mono ?_
    rintro e w2 ⟨rfl, hW2⟩
    go_wp2_with fail
    go_roundw
    case rel =>
      have hW3 := hW.trans (hW1.mono hW.size)
      exact ⟨g, k + n, a + x, y, by omega, by go_num, rfl, by omega, hkn, HA.out, hW3.trans (hW2.mono hW3.size), HY⟩
    case measure => simp [intOf]; omega

set_option maxHeartbeats 2000000 in
theorem size_step (f : Nat) (ih : ∀ g, g < f → SizeAt g) (ih' : ∀ g, g < f → PlacesAt g) : SizeAt f := by
  intro s v w hs h
  have hv := Rf.cnt_small h (by simpa using hs)
  rcases f with _ | f
  · simp [Rf.cnt] at h
  have IH := ih f (by omega)
  have IH' := ih' f (by omega)
  clear ih ih'
  simp only [Rf.cnt] at h
  rcases hsp : Rf.split s.data.toList with _ | cut
  · rw [hsp] at h; cases h
  have hle := Rf.split_le hsp
  rw [hsp] at h
  simp only at h
  have hcs : cut ≤ s.size := by simpa using hle
  rcases hd : s.data.toList.drop cut with _ | ⟨u, us⟩
  · rw [hd] at h
    have hcut : cut = s.size := by have : s.size ≤ cut := by simpa using hd
                                   omega
    subst hcut
    rcases hl : s.data.toList.drop 0 with _ | ⟨c, r⟩
    · rw [List.drop_zero] at hl; rw [hl] at h; simp at h
    obtain ⟨hk, hc, hr⟩ := at_of_drop hl
    rw [List.drop_zero] at hl
    by_cases e40 : c = 40
    · have hb : ((s[0].toNat : Int) == 40) = true := by rw [hc, e40]; rfl
      rw [hl] at h
      simp only [if_pos e40] at h
      have hrl : r.length = s.size - 1 := by rw [← hr]; simp
      by_cases hr0 : r.length = 0
      · rw [if_pos hr0] at h; cases h
      rw [if_neg hr0] at h
      have hm : Rf.cnt f true (s.extract 1 (s.size - 1)).data.toList = some v := by
        rw [ext_list, List.drop_take, hr, show s.size - 1 - 1 = r.length - 1 by omega]; exact h
      have h2 : 1 ≤ s.size - 1 := by omega
      clear hl hc hr h e40 hd hle hr0 hrl
      go_enter Try.func88, Try.ntmps88
      go_wp2_with fail
      refine (split_any s _ _ hs hsp).mono ?_
      rintro e w1 ⟨rfl, hW⟩
      go_wp2_with fail
      refine (IH' _ v _ (ext_size s _ _ hs) hm).mono ?_
      rintro e w2 ⟨rfl, hW2⟩
      go_wp2_with fail
      go_ret
      exact ⟨rfl, hW.trans (hW2.mono hW.size)⟩
    · have hb : ((s[0].toNat : Int) == 40) = false := by rw [hc]; exact bne_of e40
      rw [hl] at h
      simp only [if_neg e40, Option.some.injEq] at h
      subst h
      clear hl hc hr e40 hd hle
      go_enter Try.func88, Try.ntmps88
      go_wp2_with fail
      refine (split_any s _ _ hs hsp).mono ?_
      rintro e w1 ⟨rfl, hW⟩
      go_wp2_with fail
      go_ret
      exact ⟨rfl, hW⟩
  · obtain ⟨hk, hc, hr⟩ := at_of_drop hd
    rw [hd] at h
    simp only at h
    rcases hx : Rf.cnt f false (s.data.toList.take cut) with _ | n
    · rw [hx] at h; cases h
    rw [hx] at h
    simp only at h
    have hx' : Rf.cnt f false (s.extract 0 cut).data.toList = some n := by rw [ext_to]; exact hx
    have hn0 := Rf.cnt_small hx (by rw [List.length_take]; simp; omega)
    have hul : (s.extract cut s.size).data.toList = u :: us := by rw [ext_from, hd]
    have hus : 0 < (s.extract cut s.size).size := by
      have : (s.extract cut s.size).data.toList.length = us.length + 1 := by rw [hul]; rfl
      simp at this; simp; omega
    have hu0 : (s.extract cut s.size)[0] = u := by
      have := get_getD (s.extract cut s.size) 0 hus
      rw [this, hul]; rfl
    have hsz : (s.extract cut s.size).size ≤ 40 := ext_size s _ _ hs
    have Hsp : Hid (Calls Try.prog 121 #[.string s] w fun e w' => e = .returned (.tuple #[.string (s.extract 0 cut), .string (s.extract cut s.size)]) ∧ Below w.heap.size w w') := split_any s cut w hs hsp
    generalize s.extract cut s.size = ub at *
    have hue : ub.toList.isEmpty = false := by rw [ByteArray.toList_eq, hul]; rfl
    by_cases e123 : u = 123
    · rw [if_pos e123] at h
      have hb : ((ub[0].toNat : Int) == 123) = true := by rw [hu0, e123]; rfl
      rcases hm : Rf.most (u :: us) with _ | m
      · rw [hm] at h; cases h
      rw [hm] at h
      simp only [Option.map_some, Option.some.injEq] at h
      obtain ⟨m0, m1, m2⟩ := Rf.most_bd hm
      rw [← hul] at hm
      have HV : Hid (n * m = v) := h
      have nm : 0 ≤ n * m ∧ n * m ≤ 9094947017729282 := by rw [h]; exact hv
      clear h hu0 hul hx hd hc hr e123
      go_enter Try.func88, Try.ntmps88
      go_wp2_with fail
      refine Hsp.out.mono ?_
      rintro e w1 ⟨rfl, hW⟩
      go_wp2_with fail
      refine (IH _ n _ (ext_size s _ _ hs) hx').mono ?_
      rintro e w2 ⟨rfl, hW2⟩
      go_wp2_with fail
      refine (counts_any ub m _ hsz hm).mono ?_
      rintro e w3 ⟨l, rfl, hW3⟩
      go_wp2_with fail
      go_ret
      have hW4 := hW.trans (hW2.mono hW.size)
      exact ⟨ret_int HV.out, hW4.trans (hW3.mono hW4.size)⟩
    · rw [if_neg e123] at h
      have hb : ((ub[0].toNat : Int) == 123) = false := by rw [hu0]; exact bne_of e123
      have HV : Hid (n = v) := Option.some.inj h
      clear h hu0 hul hx hd hc hr e123
      go_enter Try.func88, Try.ntmps88
      go_wp2_with fail
      refine Hsp.out.mono ?_
      rintro e w1 ⟨rfl, hW⟩
      go_wp2_with fail
      refine (IH _ n _ (ext_size s _ _ hs) hx').mono ?_
      rintro e w2 ⟨rfl, hW2⟩
      go_wp2_with fail
      go_ret
      exact ⟨ret_int HV.out, hW.trans (hW2.mono hW.size)⟩

theorem cnt_any : ∀ f : Nat, PlacesAt f ∧ SizeAt f := by
  intro f
  induction f using Nat.strongRecOn with
  | ind f ih => exact ⟨places_step f (fun g hg => (ih g hg).2), size_step f (fun g hg => (ih g hg).2) (fun g hg => (ih g hg).1)⟩
end Go.Proofs.Ytoaaklhpmhjhkaa
