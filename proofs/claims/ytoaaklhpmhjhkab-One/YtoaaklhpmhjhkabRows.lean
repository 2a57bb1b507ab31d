/-
  No cell of these rows narrows 'for every input' (looked for: loops, veiled, ifaces, maps, wideKeys, modest, calm, conditions, laid).
  DERIVED. THE GIVEN ROWS OF THIS SEAT. 5 by the template 'for every input the law returns true; each argument reads behind the call as it read before'; 0 by the template 'total and deterministic' (their statements: YtoaaklhpmhjhkabTotals.lean).
  GIVEN WITH THE SEED: the statements are not yours to turn. If you find one false, say at which input.
  Laid BY PROGRAM, IN A SANDBOX (cutbox-rows.mjs): the forced cells as the released guide's own fill.sh prints them over the translation d23f564e73e2f042… (all of the seat's roots in one cut). By AI agents, Wed Nov 11 2026. No macro, syntax, notation, axiom, sorry.
-/
import Derived.Test.YtoaaklhpmhjhkabChecked
import GoSem.Claim
import GoSem.ClaimJoined
import GoSem.ClaimMapViews
import Derived.JoinedTies
import Derived.KernelRfl
namespace Go.Proofs.Ytoaaklhpmhjhkab
/- THE CELL 'sum', in the pinned program and in every row, IS THE sha256 OF THE DUMP (.gsa) THAT YtoaaklhpmhjhkabProg.lean LOADS. Nothing in Lean hashes anything: it is a label: what it is worth is what the hold of that sum in a sandbox is worth. -/
noncomputable def Try.pinned : Pinned := { name := "ytoaaklhpmhjhkab", sum := "d23f564e73e2f0428d20fdc3f649dac8d06d1477980a7e4f2ece99a5b69e3517", checked := Try.checked }
namespace Rows
def none {H : Type} : Left H := { results := [], args := [] }

/-- 'munchkeep.Whole': WHATEVER THE INPUT: true; the input reads as it did. -/
def wholeSpec : ChangeSpec := { name := "whole", fn := fun _ => fun
  | [d1, d2, d3, d4] => { results := [.lit (.bool true)], args := [d1, d2, d3, d4] }
  | _ => none }
def wholeRow : OpenClaim := { program := "ytoaaklhpmhjhkab", sum := "d23f564e73e2f0428d20fdc3f649dac8d06d1477980a7e4f2ece99a5b69e3517", func := "munch/munchkeep.Whole", spec := "whole", apart := false }
def WholeSaid : Prop := wholeRow.holds Try.pinned (OpenSpec.ofChange wholeSpec)

/-- ITS FALSE NEIGHBOUR: 'it returns false'. Refute it at one input. -/
def wholeWrong : ChangeSpec := { name := "whole", fn := fun _ => fun
  | [d1, d2, d3, d4] => { results := [.lit (.bool false)], args := [d1, d2, d3, d4] }
  | _ => none }
def WholeWrongFalsely : Prop := wholeRow.holds Try.pinned (OpenSpec.ofChange wholeWrong)

/-- 'munchkeep.Torn': WHATEVER THE INPUT: true; the input reads as it did. -/
def tornSpec : ChangeSpec := { name := "torn", fn := fun _ => fun
  | [d1, d2, d3, d4, d5, d6, d7, d8] => { results := [.lit (.bool true)], args := [d1, d2, d3, d4, d5, d6, d7, d8] }
  | _ => none }
def tornRow : OpenClaim := { program := "ytoaaklhpmhjhkab", sum := "d23f564e73e2f0428d20fdc3f649dac8d06d1477980a7e4f2ece99a5b69e3517", func := "munch/munchkeep.Torn", spec := "torn", apart := false }
def TornSaid : Prop := tornRow.holds Try.pinned (OpenSpec.ofChange tornSpec)

/-- ITS FALSE NEIGHBOUR: 'it returns false'. Refute it at one input. -/
def tornWrong : ChangeSpec := { name := "torn", fn := fun _ => fun
  | [d1, d2, d3, d4, d5, d6, d7, d8] => { results := [.lit (.bool false)], args := [d1, d2, d3, d4, d5, d6, d7, d8] }
  | _ => none }
def TornWrongFalsely : Prop := tornRow.holds Try.pinned (OpenSpec.ofChange tornWrong)

/-- 'munchkeep.Rest': WHATEVER THE INPUT: true; the input reads as it did. -/
def restSpec : ChangeSpec := { name := "rest", fn := fun _ => fun
  | [d1, d2, d3, d4, d5, d6] => { results := [.lit (.bool true)], args := [d1, d2, d3, d4, d5, d6] }
  | _ => none }
def restRow : OpenClaim := { program := "ytoaaklhpmhjhkab", sum := "d23f564e73e2f0428d20fdc3f649dac8d06d1477980a7e4f2ece99a5b69e3517", func := "munch/munchkeep.Rest", spec := "rest", apart := false }
def RestSaid : Prop := restRow.holds Try.pinned (OpenSpec.ofChange restSpec)

/-- ITS FALSE NEIGHBOUR: 'it returns false'. Refute it at one input. -/
def restWrong : ChangeSpec := { name := "rest", fn := fun _ => fun
  | [d1, d2, d3, d4, d5, d6] => { results := [.lit (.bool false)], args := [d1, d2, d3, d4, d5, d6] }
  | _ => none }
def RestWrongFalsely : Prop := restRow.holds Try.pinned (OpenSpec.ofChange restWrong)

/-- 'munchkeep.One': WHATEVER THE INPUT: true; the input reads as it did. -/
def oneSpec : ChangeSpec := { name := "one", fn := fun _ => fun
  | [d1, d2, d3, d4, d5, d6] => { results := [.lit (.bool true)], args := [d1, d2, d3, d4, d5, d6] }
  | _ => none }
def oneRow : OpenClaim := { program := "ytoaaklhpmhjhkab", sum := "d23f564e73e2f0428d20fdc3f649dac8d06d1477980a7e4f2ece99a5b69e3517", func := "munch/munchkeep.One", spec := "one", recurses := true, apart := false }
def OneSaid : Prop := oneRow.holds Try.pinned (OpenSpec.ofChange oneSpec)

/-- ITS FALSE NEIGHBOUR: 'it returns false'. Refute it at one input. -/
def oneWrong : ChangeSpec := { name := "one", fn := fun _ => fun
  | [d1, d2, d3, d4, d5, d6] => { results := [.lit (.bool false)], args := [d1, d2, d3, d4, d5, d6] }
  | _ => none }
def OneWrongFalsely : Prop := oneRow.holds Try.pinned (OpenSpec.ofChange oneWrong)

/-- 'munchkeep.Least': WHATEVER THE INPUT: true; the input reads as it did. -/
def leastSpec : ChangeSpec := { name := "least", fn := fun _ => fun
  | [d] => { results := [.lit (.bool true)], args := [d] }
  | _ => none }
def leastRow : OpenClaim := { program := "ytoaaklhpmhjhkab", sum := "d23f564e73e2f0428d20fdc3f649dac8d06d1477980a7e4f2ece99a5b69e3517", func := "munch/munchkeep.Least", spec := "least", recurses := true, apart := false }
def LeastSaid : Prop := leastRow.holds Try.pinned (OpenSpec.ofChange leastSpec)

/-- ITS FALSE NEIGHBOUR: 'it returns false'. Refute it at one input. -/
def leastWrong : ChangeSpec := { name := "least", fn := fun _ => fun
  | [d] => { results := [.lit (.bool false)], args := [d] }
  | _ => none }
def LeastWrongFalsely : Prop := leastRow.holds Try.pinned (OpenSpec.ofChange leastWrong)

/- THE SECOND FORM. 'bulk': how many values and letters a reading holds, each counted each time it is reached (what is shared counts as often as it is met; a slice's spare places count too). A statement '..UptoSaid' is the law's where the arguments, and the package variables that the reading takes, are together of bulk at most 1048576: NARROWER than '..Said'. Prove '..Said' where nothing that the law and all that it calls make is longer than what came in: it says more and counts as full. Else prove '..UptoSaid'. A law counts once. -/
mutual
def uptoBulk {H : Type} : DataW H → Nat
  | .lit (.string bytes) => bytes.length + 1
  | .lit _ => 1
  | .nil => 1
  | .ptr d => uptoBulk d + 1
  | .slice elems spare => uptoBulkAll elems + uptoBulkAll spare + 1
  | .agg parts => uptoBulkAll parts + 1
  | .iface _ d => uptoBulk d + 1
  | .map entries => uptoBulkEntries entries + 1
  | .held _ => 1
def uptoBulkAll {H : Type} : List (DataW H) → Nat
  | [] => 0
  | d :: r => uptoBulk d + uptoBulkAll r
def uptoBulkEntries {H : Type} : List (Lit × DataW H) → Nat
  | [] => 0
  | x :: r => uptoBulkEntry x + uptoBulkEntries r
def uptoBulkEntry {H : Type} : Lit × DataW H → Nat
  | (.string bytes, d) => bytes.length + uptoBulk d + 1
  | (_, d) => uptoBulk d + 1
 end
def uptoSmall : (H : Type) → List (DataW H) → Bool := fun _ ds => decide (uptoBulkAll ds ≤ 1048576)
def OpenSpec.upto (s : _root_.Go.ChangeSpec) : _root_.Go.OpenSpec := { _root_.Go.OpenSpec.ofChange s with cond := some uptoSmall }

/-- 'munchkeep.Whole', WHERE WHAT IT READS IS OF BULK AT MOST 1048576: true; the input reads as it did. -/
def wholeUptoRow : OpenClaim := { program := "ytoaaklhpmhjhkab", sum := "d23f564e73e2f0428d20fdc3f649dac8d06d1477980a7e4f2ece99a5b69e3517", func := "munch/munchkeep.Whole", spec := "whole", apart := false, narrowed := true }
def WholeUptoSaid : Prop := wholeUptoRow.holds Try.pinned (OpenSpec.upto wholeSpec)

/-- 'munchkeep.Torn', WHERE WHAT IT READS IS OF BULK AT MOST 1048576: true; the input reads as it did. -/
def tornUptoRow : OpenClaim := { program := "ytoaaklhpmhjhkab", sum := "d23f564e73e2f0428d20fdc3f649dac8d06d1477980a7e4f2ece99a5b69e3517", func := "munch/munchkeep.Torn", spec := "torn", apart := false, narrowed := true }
def TornUptoSaid : Prop := tornUptoRow.holds Try.pinned (OpenSpec.upto tornSpec)

/-- 'munchkeep.Rest', WHERE WHAT IT READS IS OF BULK AT MOST 1048576: true; the input reads as it did. -/
def restUptoRow : OpenClaim := { program := "ytoaaklhpmhjhkab", sum := "d23f564e73e2f0428d20fdc3f649dac8d06d1477980a7e4f2ece99a5b69e3517", func := "munch/munchkeep.Rest", spec := "rest", apart := false, narrowed := true }
def RestUptoSaid : Prop := restUptoRow.holds Try.pinned (OpenSpec.upto restSpec)

/-- 'munchkeep.One', WHERE WHAT IT READS IS OF BULK AT MOST 1048576: true; the input reads as it did. -/
def oneUptoRow : OpenClaim := { program := "ytoaaklhpmhjhkab", sum := "d23f564e73e2f0428d20fdc3f649dac8d06d1477980a7e4f2ece99a5b69e3517", func := "munch/munchkeep.One", spec := "one", recurses := true, apart := false, narrowed := true }
def OneUptoSaid : Prop := oneUptoRow.holds Try.pinned (OpenSpec.upto oneSpec)

/-- 'munchkeep.Least', WHERE WHAT IT READS IS OF BULK AT MOST 1048576: true; the input reads as it did. -/
def leastUptoRow : OpenClaim := { program := "ytoaaklhpmhjhkab", sum := "d23f564e73e2f0428d20fdc3f649dac8d06d1477980a7e4f2ece99a5b69e3517", func := "munch/munchkeep.Least", spec := "least", recurses := true, apart := false, narrowed := true }
def LeastUptoSaid : Prop := leastUptoRow.holds Try.pinned (OpenSpec.upto leastSpec)

end Rows
end Go.Proofs.Ytoaaklhpmhjhkab
