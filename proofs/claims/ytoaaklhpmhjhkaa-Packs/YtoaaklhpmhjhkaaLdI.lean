/-
  Contracts of the law's full and reads.
-/
import Derived.Test.YtoaaklhpmhjhkaaLdH
namespace Go.Proofs.Ytoaaklhpmhjhkaa
open Go.RowKit

set_option maxHeartbeats 1000000 in
theorem full_any (g n c : Nat) (f : Nat → Int) (v : Int) (w : World) (_hn : n ≤ c) (hc : c ≤ 17592186044416) (hR : NRow g f c w) :
    Calls Try.prog 46 #[.slice (some ⟨g, 0, none⟩) n c, .int .i64 v] w fun e w' => e = .returned (.tuple #[]) ∧ NRow g (fun _ => v) c w' ∧ w.grownBy w' (some g) ∧ w'.heap.size = w.heap.size := by
  have hc' : (c : Int) ≤ 17592186044416 := by omega
  go_enter Try.func46, Try.ntmps46
  go_wp2_with fail
  go_loopw [5] (fun i w' => ∃ k : Nat, k ≤ c ∧ i = .int .i64 k ∧ NRow g (fun j => if j < k then v else f j) c w' ∧ w.grownBy w' (some g) ∧ w'.heap.size = w.heap.size) (fun i _ => c - (intOf i).toNat)
  case atStart => exact ⟨0, by omega, rfl, hR.congr (fun k _ => by simp), grown_refl _ _, rfl⟩
  case round =>
    obtain ⟨k, hk, rfl, hR2, hG, hS⟩ := hrel
    by_cases hlt : k < c
    · obtain ⟨hcc, hff⟩ := hR2 k hlt
      have hR3 := hR2.set k hlt v
      have hlt' : (k : Int) < (c : Int) := by omega
      go_wp2_with fail
      go_roundw
      case rel =>
        refine ⟨k + 1, by omega, by go_num, hR3.congr (fun j _ => ?_), ?_, by simp [World.setCell]; exact hS⟩
        · by_cases e : j = k
          · subst e; simp
          · by_cases e1 : j < k
            · simp [e, e1, show j < k + 1 by omega]
            · simp [e, e1, show ¬ j < k + 1 by omega]
        · exact grown_trans hG (setCells_grown g [.int .i64 v] k _)
      case measure => simp [intOf]; omega
    · have hge : ¬ (k : Int) < (c : Int) := by omega
      have hkc : c = k := by omega
      subst hkc
      go_wp2_with fail
      go_end0
      exact ⟨rfl, hR2.congr (fun j hj => by simp [hj]), hG, hS⟩

set_option maxHeartbeats 1000000 in
/-- reads: a list that reads v to its capacity's end. -/
theorem reads_any (g n c : Nat) (v : Int) (w : World) (_hn : n ≤ c) (hc : c ≤ 17592186044416) (hR : NRow g (fun _ => v) c w) :
    Calls Try.prog 47 #[.slice (some ⟨g, 0, none⟩) n c, .int .i64 v] w fun e w' => e = .returned (.bool true) ∧ w' = w := by
  have hc' : (c : Int) ≤ 17592186044416 := by omega
  go_enter Try.func47, Try.ntmps47
  go_wp2_with fail
  go_loopw [6] (fun i w' => ∃ k : Nat, k ≤ c ∧ i = .int .i64 k ∧ w' = w) (fun i _ => c - (intOf i).toNat)
  case atStart => exact ⟨0, by omega, rfl, rfl⟩
  case round =>
    obtain ⟨k, hk, rfl, rfl⟩ := hrel
    by_cases hlt : k < c
    · obtain ⟨hcc, hff⟩ := hR k hlt
      have hlt' : (k : Int) < (c : Int) := by omega
      go_wp2_with fail
      go_roundw
      case rel => exact ⟨k + 1, by omega, by go_num, trivial⟩
      case measure => simp [intOf]; omega
    · have hge : ¬ (k : Int) < (c : Int) := by omega
      go_wp2_with fail
      go_ret
      exact ⟨rfl, rfl⟩
end Go.Proofs.Ytoaaklhpmhjhkaa
