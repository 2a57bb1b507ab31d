/-
  Where a class leads: the program's lead, Step and Label.
-/
import Derived.Test.YtoaaklhpmhjhkaaLdF
namespace Go.Proofs.Ytoaaklhpmhjhkaa
open Go.RowKit

theorem clsTo_bd {f : Nat → Int} : ∀ {k n : Nat}, clsTo f k = some n → ∀ i, i < k → 0 ≤ f i ∧ f i ≤ i
  | 0, _, _, i, hi => by omega
  | k + 1, n, h, i, hi => by
    rw [clsTo] at h
    rcases hc : clsTo f k with _ | m
    · rw [hc] at h; cases h
    · rw [hc] at h
      simp only at h
      have hm := clsTo_le hc
      by_cases e : i = k
      · subst e
        by_cases hb : f i < 0 ∨ (m : Int) < f i
        · rw [if_pos hb] at h; cases h
        · omega
      · exact clsTo_bd hc i (by omega)
theorem Snd.cl {T : Tb} (h : Snd T) : T.ncl = 256 ∧ ∀ i, i < 256 → 0 ≤ T.cl i ∧ T.cl i ≤ 255 := by
  have hp := h.hd.2.2.1
  unfold cls at hp
  by_cases e : T.ncl = 256
  · rw [if_pos e] at hp
    refine ⟨e, fun i hi => ?_⟩
    rcases hc : clsTo T.cl 256 with _ | m
    · rw [hc] at hp; simp at hp
    · have := clsTo_bd hc i hi; omega
  · rw [if_neg e] at hp; omega
/-- Where a class leads from a state, in at most u steps. -/
def ldF (T : Tb) : Nat → Int → Int → Int
  | 0, _, _ => -1
  | u + 1, s, c => if s = -1 then -1 else if T.bs s.toNat + c < T.nck ∧ T.ck (T.bs s.toNat + c).toNat = s then T.nx (T.bs s.toNat + c).toNat else ldF T u (T.df s.toNat) c
theorem ldF_none (T : Tb) (u : Nat) (c : Int) : ldF T u (-1) c = -1 := by cases u <;> simp [ldF]
theorem ldF_at {T : Tb} {u n k : Nat} {c : Int} (hk : T.bs n + c = (k : Int)) (h1 : k < T.nck) (h2 : T.ck k = n) : ldF T (u + 1) (n : Int) c = T.nx k := by
  rw [ldF, if_neg (by omega), Int.toNat_natCast, hk, Int.toNat_natCast, if_pos ⟨by omega, h2⟩]
theorem ldF_on {T : Tb} {u n k : Nat} {c : Int} (hk : T.bs n + c = (k : Int)) (h : ¬ (k < T.nck ∧ T.ck k = n)) : ldF T (u + 1) (n : Int) c = ldF T u (T.df n) c := by
  rw [ldF, if_neg (by omega), Int.toNat_natCast, hk, Int.toNat_natCast, if_neg (fun e => h ⟨by omega, e.2⟩)]
/-- Where a byte leads. -/
def stp (T : Tb) (s b : Int) : Int := if s < 0 ∨ (T.nlb : Int) ≤ s ∨ b < 0 ∨ 256 ≤ b then -1 else ldF T 97 s (T.cl b.toNat)
/-- The rule of a state. -/
def lbl (T : Tb) (s : Int) : Int := if s < 0 ∨ (T.nlb : Int) ≤ s then -1 else T.lb s.toNat

set_option maxRecDepth 100000 in
set_option maxHeartbeats 4000000 in
theorem lead_any (b : Nat) (T : Tb) (A : TbA) (n0 : Nat) (c : Int) (w : World) (hS : Snd T) (hA : TbAt b T A w) (hI : TbIn T A w) (hn : n0 < T.nlb) (hc : 0 ≤ c ∧ c ≤ 255) :
    Calls Try.prog 79 #[.pointer (some ⟨b, 0, none⟩), .int .i64 n0, .int .i64 c] w fun e w' => e = .returned (.int .i64 (ldF T 97 n0 c)) ∧ w' = w := by
  obtain ⟨R, hR⟩ : ∃ R, R = ldF T 97 n0 c := ⟨_, rfl⟩
  rw [← hR]
  have HR : Hid (R = ldF T 97 n0 c) := hR
  clear hR
  have HS : Hid (Snd T) := hS
  have HI : Hid (TbIn T A w) := hI
  obtain ⟨a1, C1, a2, C2, a3, C3, a4, C4, a5, C5, a6, C6⟩ := A
  obtain ⟨p0, p1, p2, p3, p4, p5, p6⟩ := hA
  have e3 := hS.e3
  have e4 := hS.e4
  have e6 := hS.e6
  have hl := hS.hd.2.1
  have hck := hS.e5
  rw [e3] at p3
  rw [e4] at p4
  rw [e6] at p6
  clear hS hI
  have l3 : IL a3 T.bs T.nlb w := by rw [← e3]; exact HI.out.l3
  have l4 : IL a4 T.df T.nlb w := by rw [← e4]; exact HI.out.l4
  have l5 : IL a5 T.ck T.nck w := HI.out.l5
  have l6 : IL a6 T.nx T.nck w := by rw [← e6]; exact HI.out.l6
  have L3 : Hid (IL a3 T.bs T.nlb w) := l3
  have L4 : Hid (IL a4 T.df T.nlb w) := l4
  have L5 : Hid (IL a5 T.ck T.nck w) := l5
  have L6 : Hid (IL a6 T.nx T.nck w) := l6
  have B3 : Hid (∀ i, i < T.nlb → 0 ≤ T.bs i ∧ T.bs i ≤ T.nck) := HS.out.b3
  have B4 : Hid (∀ i, i < T.nlb → -1 ≤ T.df i ∧ T.df i < i) := HS.out.b4
  clear l3 l4 l5 l6 HI HS e3 e4 e6
  simp only at p0 p1 p2 p3 p4 p5 p6
  go_enter Try.func79, Try.ntmps79
  go_wp2_with fail
  go_loopw [1] (fun x w' => ∃ (s : Int) (u : Nat), x = .int .i64 s ∧ -1 ≤ s ∧ s < T.nlb ∧ s < u ∧ u ≤ 97 ∧ Hid (R = ldF T u s c) ∧ w' = w) (fun x _ => (intOf x + 1).toNat)
  case atStart => exact ⟨n0, 97, rfl, by omega, by omega, by omega, by omega, HR, rfl⟩
  case round =>
    clear HR
    obtain ⟨s, u, rfl, hs0, hs1, hsu, hu, HR, rfl⟩ := hrel
    by_cases hs : s = -1
    · subst hs
      have HR1 : Hid (R = -1) := by show _ = _; rw [HR.out, ldF_none]
      clear HR
      go_wp2_with fail
      go_ret
      exact ⟨ret_int HR1.out.symm, rfl⟩
    · obtain ⟨n, rfl⟩ := Int.eq_ofNat_of_zero_le (show 0 ≤ s by omega)
      rcases u with _ | u
      · omega
      have q1 : ((n : Int) == -1) = false := by simp
      have q2 : ((n : Int) != -1) = true := by simp
      have hnl : n < T.nlb := by omega
      have hnl' : (n : Int) < (T.nlb : Int) := by omega
      have b3 := B3.out n hnl
      have b4 := B4.out n hnl
      obtain ⟨k, ik⟩ : ∃ k : Nat, T.bs n + c = (k : Int) := ⟨(T.bs n + c).toNat, by omega⟩
      obtain ⟨g3, o3, rfl, c3⟩ := L3.out n hnl
      obtain ⟨g4, o4, rfl, c4⟩ := L4.out n hnl
      by_cases hkk : k < T.nck
      · have hkk' : (k : Int) < (T.nck : Int) := by omega
        obtain ⟨g5, o5, rfl, c5⟩ := L5.out k hkk
        obtain ⟨g6, o6, rfl, c6⟩ := L6.out k hkk
        by_cases hck2 : T.ck k = n
        · have HR1 : Hid (R = T.nx k) := by show _ = _; rw [HR.out, ldF_at ik hkk hck2]
          have q3 : (T.ck k == (n : Int)) = true := by simpa using hck2
          clear HR
          go_wp2_with fail
          go_ret
          exact ⟨ret_int HR1.out.symm, rfl⟩
        · have HR1 : Hid (R = ldF T u (T.df n) c) := by show _ = _; rw [HR.out, ldF_on ik (fun e => hck2 e.2)]
          have q3 : (T.ck k == (n : Int)) = false := by simpa using hck2
          clear HR
          go_wp2_with fail
          go_roundw
          case rel => exact ⟨T.df n, u, rfl, b4.1, by omega, by omega, by omega, HR1, trivial⟩
          case measure => simp [intOf]; omega
      · have hkk' : ¬ (k : Int) < (T.nck : Int) := by omega
        have HR1 : Hid (R = ldF T u (T.df n) c) := by show _ = _; rw [HR.out, ldF_on ik (fun e => hkk e.1)]
        clear HR
        go_wp2_with fail
        go_roundw
        case rel => exact ⟨T.df n, u, rfl, b4.1, by omega, by omega, by omega, HR1, trivial⟩
        case measure => simp [intOf]; omega
end Go.Proofs.Ytoaaklhpmhjhkaa
