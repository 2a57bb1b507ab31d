/-
  Contract of the program's copyOf.
-/
import Derived.Test.YtoaaklhpmhjhkaaLdF
namespace Go.Proofs.Ytoaaklhpmhjhkaa
open Go.RowKit

theorem copyOf_in (ad : Option Addr) (n cap : Nat) (f : Nat → Int) (w w2 : World) (hn : n ≤ 17592186044416)
    (hcp : (Builtin.copy_ #[24, 24] 3 #[.slice (some ⟨w.heap.size, 0, none⟩) n n, .slice ad n cap]).run Try.prog (w.alloc (.cells (blankI n) 3)) = .ok (goInt n) w2)
    (hW2 : Below w.heap.size w w2) (hR : NRow w.heap.size f n w2) :
    Calls Try.prog 74 #[.slice ad n cap] w fun e w' => e = .returned (.slice (some ⟨w.heap.size, 0, none⟩) n n) ∧ NRow w.heap.size f n w' ∧ Below w.heap.size w w' := by
  have hmk : (Instr.makeSlice 24 (.int .i64 (n : Int)) (.int .i64 (n : Int))).run Try.prog w = .ok (.slice (some ⟨w.heap.size, 0, none⟩) n n) (w.alloc (.cells (blankI n) 3)) := run_blankI w n hn
  go_enter Try.func74, Try.ntmps74
  go_wp2_with fail
  go_ret
  exact ⟨rfl, hR, hW2⟩
/-- copyOf: a fresh list of the same numbers. -/
theorem copyOf_any (ad : Option Addr) (n cap : Nat) (f : Nat → Int) (w : World) (hn : n ≤ 17592186044416) (hr : IL ad f n w) :
    Calls Try.prog 74 #[.slice ad n cap] w fun e w' => e = .returned (.slice (some ⟨w.heap.size, 0, none⟩) n n) ∧ NRow w.heap.size f n w' ∧ Below w.heap.size w w' := by
  obtain ⟨w2, h1, h2, h3⟩ := run_copyI ad n cap n f w (Nat.le_refl _) hr
  exact copyOf_in ad n cap f w w2 hn h1 h2 (h3.congr (fun k hk => by simp [hk]))
end Go.Proofs.Ytoaaklhpmhjhkaa
