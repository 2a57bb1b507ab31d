/-
  Tables of a file lead as the machine's rows; munchkeep's walk.
-/
import Derived.Test.YtoaaklhpmhjhkabKpD
import Derived.Test.YtoaaklhpmhjhkabStB
namespace Go.Proofs.Ytoaaklhpmhjhkab
open Go.RowKit
open Bm

theorem ldF_teq {T U : Tb} (h : TEq T U) (hS : Snd T) (c : Int) (hc : 0 ≤ c) : ∀ (u : Nat) (s : Int), -1 ≤ s → s < T.nlb → ldF T u s c = ldF U u s c
  | 0, _, _, _ => rfl
  | u + 1, s, h1, h2 => by
    rw [ldF, ldF]
    by_cases e : s = -1
    · rw [if_pos e, if_pos e]
    · rw [if_neg e, if_neg e]
      obtain ⟨n, rfl⟩ := Int.eq_ofNat_of_zero_le (show 0 ≤ s by omega)
      rw [Int.toNat_natCast]
      have e3 := hS.e3
      have e4 := hS.e4
      have e6 := hS.e6
      have b3 := hS.b3 n (by omega)
      have b4 := hS.b4 n (by omega)
      have k3 : U.bs n = T.bs n := (h.f3 n (by omega)).symm
      have k4 : U.df n = T.df n := (h.f4 n (by omega)).symm
      rw [k3, k4, ← h.n5]
      obtain ⟨k, hk⟩ : ∃ k : Nat, T.bs n + c = (k : Int) := ⟨(T.bs n + c).toNat, by omega⟩
      rw [hk, Int.toNat_natCast]
      by_cases hkk : k < T.nck
      · rw [← h.f5 k hkk, ← h.f6 k (by omega)]
        by_cases hcnd : (k : Int) < (T.nck : Int) ∧ T.ck k = (n : Int)
        · rw [if_pos hcnd, if_pos hcnd]
        · rw [if_neg hcnd, if_neg hcnd]
          exact ldF_teq h hS c hc u _ (by omega) (by omega)
      · rw [if_neg (fun e => hkk (by omega)), if_neg (fun e => hkk (by omega))]
        exact ldF_teq h hS c hc u _ (by omega) (by omega)
theorem stp_teq {T U : Tb} (h : TEq T U) (hS : Snd T) (s b : Int) : stp T s b = stp U s b := by
  unfold stp
  rw [← h.n2]
  by_cases e : s < 0 ∨ (T.nlb : Int) ≤ s ∨ b < 0 ∨ 256 ≤ b
  · rw [if_pos e, if_pos e]
  · rw [if_neg e, if_neg e]
    have hcl := hS.cl
    have k1 : U.cl b.toNat = T.cl b.toNat := (h.f1 _ (by omega)).symm
    rw [k1]
    exact ldF_teq h hS _ (hcl.2 _ (by omega)).1 97 s (by omega) (by omega)
theorem lbl_teq {T U : Tb} (h : TEq T U) (s : Int) : lbl T s = lbl U s := by
  unfold lbl
  rw [← h.n2]
  by_cases e : s < 0 ∨ (T.nlb : Int) ≤ s
  · rw [if_pos e, if_pos e]
  · rw [if_neg e, if_neg e, h.f2 _ (by omega)]
theorem Good.small {s : ByteArray} (h : Good s) : s.size ≤ 140737488355328 := by
  have hF := h.2.1
  have h1 := hF.2.1
  have h2 := hF.2.2
  have b6 := num_bd s 6 1 (by omega)
  have b7 := num_bd s 7 2 (by omega)
  have b9 := num_bd s 9 1 (by omega)
  have p1 : (num s 6 1).toNat * ((num s 9 1).toNat + 2) ≤ 256 * 258 := Nat.mul_le_mul (by omega) (by omega)
  omega
/-- The file of a sound machine. -/
structure FileOf (M : Mc) : Prop where
  good : Good (mfile M)
  snd : Snd (fileT (mfile M))
  teq : TEq (packT M) (fileT (mfile M))
theorem mfile_of {M : Mc} (h : SndM M) : FileOf M := by
  obtain ⟨h1, h2⟩ := round (packT M) (packT_snd h)
  exact ⟨h1, h1.2.2.2.1, h2⟩
theorem mfile_stp {M : Mc} (h : SndM M) (s b : Nat) (hs : s < M.nlb) (hb : b < 256) : stp (fileT (mfile M)) s b = M.nx (s * M.k + (M.cl b).toNat) := by
  rw [← stp_teq (mfile_of h).teq (packT_snd h), packT_stp h s b hs hb]
theorem mfile_out {M : Mc} (h : SndM M) (s b : Int) (hb : s < 0 ∨ (M.nlb : Int) ≤ s ∨ b < 0 ∨ 256 ≤ b) : stp (fileT (mfile M)) s b = -1 := by
  rw [← stp_teq (mfile_of h).teq (packT_snd h)]
  unfold stp
  exact if_pos hb
theorem mfile_lbl {M : Mc} (h : SndM M) (s : Nat) (hs : s < M.nlb) : lbl (fileT (mfile M)) s = M.lb s := by
  rw [← lbl_teq (mfile_of h).teq]
  unfold lbl
  rw [if_neg (by have : (packT M).nlb = M.nlb := rfl; omega), Int.toNat_natCast]; rfl
theorem mfile_lbl_out {M : Mc} (h : SndM M) (s : Int) (hb : s < 0 ∨ (M.nlb : Int) ≤ s) : lbl (fileT (mfile M)) s = -1 := by
  rw [← lbl_teq (mfile_of h).teq]
  unfold lbl
  exact if_pos hb

end Go.Proofs.Ytoaaklhpmhjhkab
