/-
  The reference's Load refuses a file by its head.
-/
import Derived.Test.YtoaaklhpmhjhkabLdJ
namespace Go.Proofs.Ytoaaklhpmhjhkab
open Go.RowKit

theorem num1 (s : ByteArray) (i : Nat) (h : i < s.size) : num s i 1 = (s[i].toNat : Int) := by
  rw [fb_at s i h]; simp [num]
theorem num2 (s : ByteArray) (i : Nat) (h : i + 1 < s.size) : num s i 2 = (s[i].toNat : Int) * 256 + (s[i + 1].toNat : Int) := by
  rw [fb_at s i (by omega), fb_at s (i + 1) h]; simp [num]

end Go.Proofs.Ytoaaklhpmhjhkab
