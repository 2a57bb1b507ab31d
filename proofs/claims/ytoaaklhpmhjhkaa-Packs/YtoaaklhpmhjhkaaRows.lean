/-
  No cell of these rows narrows 'for every input' (looked for: loops, veiled, ifaces, maps, wideKeys, modest, calm, conditions, laid).
  DERIVED. THE GIVEN ROWS OF THIS SEAT. 8 by the template 'for every input the law returns true; each argument reads behind the call as it read before'; 0 by the template 'total and deterministic' (their statements: YtoaaklhpmhjhkaaTotals.lean).
  GIVEN WITH THE SEED: the statements are not yours to turn. If you find one false, say at which input.
  Laid BY PROGRAM, IN A SANDBOX (cutbox-rows.mjs): the forced cells as the released guide's own fill.sh prints them over the translation 7fb7e053d6a6644e… (all of the seat's roots in one cut). By AI agents, Wed Nov 11 2026. No macro, syntax, notation, axiom, sorry.
-/
import Derived.Test.YtoaaklhpmhjhkaaChecked
import GoSem.Claim
import GoSem.ClaimJoined
import GoSem.ClaimMapViews
import Derived.JoinedTies
import Derived.KernelRfl
namespace Go.Proofs.Ytoaaklhpmhjhkaa
/- THE CELL 'sum', in the pinned program and in every row, IS THE sha256 OF THE DUMP (.gsa) THAT YtoaaklhpmhjhkaaProg.lean LOADS. Nothing in Lean hashes anything: it is a label: what it is worth is what the hold of that sum in a sandbox is worth. -/
noncomputable def Try.pinned : Pinned := { name := "ytoaaklhpmhjhkaa", sum := "7fb7e053d6a6644e5ba9e1f6eff521bc15caba204124be17b66890538a8adc17", checked := Try.checked }
namespace Rows
def none {H : Type} : Left H := { results := [], args := [] }

/-- 'munchlaw.Checks': WHATEVER THE INPUT: true; the input reads as it did. -/
def checksSpec : ChangeSpec := { name := "checks", fn := fun _ => fun
  | [d] => { results := [.lit (.bool true)], args := [d] }
  | _ => none }
def checksRow : OpenClaim := { program := "ytoaaklhpmhjhkaa", sum := "7fb7e053d6a6644e5ba9e1f6eff521bc15caba204124be17b66890538a8adc17", func := "munch/munchlaw.Checks", spec := "checks", recurses := true, apart := false }
def ChecksSaid : Prop := checksRow.holds Try.pinned (OpenSpec.ofChange checksSpec)

/-- ITS FALSE NEIGHBOUR: 'it returns false'. Refute it at one input. -/
def checksWrong : ChangeSpec := { name := "checks", fn := fun _ => fun
  | [d] => { results := [.lit (.bool false)], args := [d] }
  | _ => none }
def ChecksWrongFalsely : Prop := checksRow.holds Try.pinned (OpenSpec.ofChange checksWrong)

/-- 'munchlaw.Encodes': WHATEVER THE INPUT: true; the input reads as it did. -/
def encodesSpec : ChangeSpec := { name := "encodes", fn := fun _ => fun
  | [d] => { results := [.lit (.bool true)], args := [d] }
  | _ => none }
def encodesRow : OpenClaim := { program := "ytoaaklhpmhjhkaa", sum := "7fb7e053d6a6644e5ba9e1f6eff521bc15caba204124be17b66890538a8adc17", func := "munch/munchlaw.Encodes", spec := "encodes", apart := false }
def EncodesSaid : Prop := encodesRow.holds Try.pinned (OpenSpec.ofChange encodesSpec)

/-- ITS FALSE NEIGHBOUR: 'it returns false'. Refute it at one input. -/
def encodesWrong : ChangeSpec := { name := "encodes", fn := fun _ => fun
  | [d] => { results := [.lit (.bool false)], args := [d] }
  | _ => none }
def EncodesWrongFalsely : Prop := encodesRow.holds Try.pinned (OpenSpec.ofChange encodesWrong)

/-- 'munchlaw.Loads': WHATEVER THE INPUT: true; the input reads as it did. -/
def loadsSpec : ChangeSpec := { name := "loads", fn := fun _ => fun
  | [d] => { results := [.lit (.bool true)], args := [d] }
  | _ => none }
def loadsRow : OpenClaim := { program := "ytoaaklhpmhjhkaa", sum := "7fb7e053d6a6644e5ba9e1f6eff521bc15caba204124be17b66890538a8adc17", func := "munch/munchlaw.Loads", spec := "loads", apart := false }
def LoadsSaid : Prop := loadsRow.holds Try.pinned (OpenSpec.ofChange loadsSpec)

/-- ITS FALSE NEIGHBOUR: 'it returns false'. Refute it at one input. -/
def loadsWrong : ChangeSpec := { name := "loads", fn := fun _ => fun
  | [d] => { results := [.lit (.bool false)], args := [d] }
  | _ => none }
def LoadsWrongFalsely : Prop := loadsRow.holds Try.pinned (OpenSpec.ofChange loadsWrong)

/-- 'munchlaw.Steps': WHATEVER THE INPUT: true; the input reads as it did. -/
def stepsSpec : ChangeSpec := { name := "steps", fn := fun _ => fun
  | [d1, d2, d3] => { results := [.lit (.bool true)], args := [d1, d2, d3] }
  | _ => none }
def stepsRow : OpenClaim := { program := "ytoaaklhpmhjhkaa", sum := "7fb7e053d6a6644e5ba9e1f6eff521bc15caba204124be17b66890538a8adc17", func := "munch/munchlaw.Steps", spec := "steps", recurses := true, apart := false }
def StepsSaid : Prop := stepsRow.holds Try.pinned (OpenSpec.ofChange stepsSpec)

/-- ITS FALSE NEIGHBOUR: 'it returns false'. Refute it at one input. -/
def stepsWrong : ChangeSpec := { name := "steps", fn := fun _ => fun
  | [d1, d2, d3] => { results := [.lit (.bool false)], args := [d1, d2, d3] }
  | _ => none }
def StepsWrongFalsely : Prop := stepsRow.holds Try.pinned (OpenSpec.ofChange stepsWrong)

/-- 'munchlaw.Scans': WHATEVER THE INPUT: true; the input reads as it did. -/
def scansSpec : ChangeSpec := { name := "scans", fn := fun _ => fun
  | [d1, d2] => { results := [.lit (.bool true)], args := [d1, d2] }
  | _ => none }
def scansRow : OpenClaim := { program := "ytoaaklhpmhjhkaa", sum := "7fb7e053d6a6644e5ba9e1f6eff521bc15caba204124be17b66890538a8adc17", func := "munch/munchlaw.Scans", spec := "scans", recurses := true, apart := false }
def ScansSaid : Prop := scansRow.holds Try.pinned (OpenSpec.ofChange scansSpec)

/-- ITS FALSE NEIGHBOUR: 'it returns false'. Refute it at one input. -/
def scansWrong : ChangeSpec := { name := "scans", fn := fun _ => fun
  | [d1, d2] => { results := [.lit (.bool false)], args := [d1, d2] }
  | _ => none }
def ScansWrongFalsely : Prop := scansRow.holds Try.pinned (OpenSpec.ofChange scansWrong)

/-- 'munchlaw.Packs': WHATEVER THE INPUT: true; the input reads as it did. -/
def packsSpec : ChangeSpec := { name := "packs", fn := fun _ => fun
  | [d] => { results := [.lit (.bool true)], args := [d] }
  | _ => none }
def packsRow : OpenClaim := { program := "ytoaaklhpmhjhkaa", sum := "7fb7e053d6a6644e5ba9e1f6eff521bc15caba204124be17b66890538a8adc17", func := "munch/munchlaw.Packs", spec := "packs", apart := false }
def PacksSaid : Prop := packsRow.holds Try.pinned (OpenSpec.ofChange packsSpec)

/-- ITS FALSE NEIGHBOUR: 'it returns false'. Refute it at one input. -/
def packsWrong : ChangeSpec := { name := "packs", fn := fun _ => fun
  | [d] => { results := [.lit (.bool false)], args := [d] }
  | _ => none }
def PacksWrongFalsely : Prop := packsRow.holds Try.pinned (OpenSpec.ofChange packsWrong)

/-- 'munchkeep.Moved': WHATEVER THE INPUT: true; the input reads as it did. -/
def movedSpec : ChangeSpec := { name := "moved", fn := fun _ => fun
  | [d1, d2, d3, d4, d5] => { results := [.lit (.bool true)], args := [d1, d2, d3, d4, d5] }
  | _ => none }
def movedRow : OpenClaim := { program := "ytoaaklhpmhjhkaa", sum := "7fb7e053d6a6644e5ba9e1f6eff521bc15caba204124be17b66890538a8adc17", func := "munch/munchkeep.Moved", spec := "moved", apart := false }
def MovedSaid : Prop := movedRow.holds Try.pinned (OpenSpec.ofChange movedSpec)

/-- ITS FALSE NEIGHBOUR: 'it returns false'. Refute it at one input. -/
def movedWrong : ChangeSpec := { name := "moved", fn := fun _ => fun
  | [d1, d2, d3, d4, d5] => { results := [.lit (.bool false)], args := [d1, d2, d3, d4, d5] }
  | _ => none }
def MovedWrongFalsely : Prop := movedRow.holds Try.pinned (OpenSpec.ofChange movedWrong)

/-- 'munchkeep.Munched': WHATEVER THE INPUT: true; the input reads as it did. -/
def munchedSpec : ChangeSpec := { name := "munched", fn := fun _ => fun
  | [d1, d2, d3, d4, d5] => { results := [.lit (.bool true)], args := [d1, d2, d3, d4, d5] }
  | _ => none }
def munchedRow : OpenClaim := { program := "ytoaaklhpmhjhkaa", sum := "7fb7e053d6a6644e5ba9e1f6eff521bc15caba204124be17b66890538a8adc17", func := "munch/munchkeep.Munched", spec := "munched", apart := false }
def MunchedSaid : Prop := munchedRow.holds Try.pinned (OpenSpec.ofChange munchedSpec)

/-- ITS FALSE NEIGHBOUR: 'it returns false'. Refute it at one input. -/
def munchedWrong : ChangeSpec := { name := "munched", fn := fun _ => fun
  | [d1, d2, d3, d4, d5] => { results := [.lit (.bool false)], args := [d1, d2, d3, d4, d5] }
  | _ => none }
def MunchedWrongFalsely : Prop := munchedRow.holds Try.pinned (OpenSpec.ofChange munchedWrong)

/- THE SECOND FORM. 'bulk': how many values and letters a reading holds, each counted each time it is reached (what is shared counts as often as it is met; a slice's spare places count too). A statement '..UptoSaid' is the law's where the arguments, and the package variables that the reading takes, are together of bulk at most 1048576: NARROWER than '..Said'. Prove '..Said' where nothing that the law and all that it calls make is longer than what came in: it says more and counts as full. Else prove '..UptoSaid'. A law counts once. -/
mutual
def uptoBulk {H : Type} : DataW H → Nat
  | .lit (.string bytes) => bytes.length + 1
  | .lit _ => 1
  | .nil => 1
  | .ptr d => uptoBulk d + 1
  | .slice elems spare => uptoBulkAll elems + uptoBulkAll spare + 1
  | .agg parts => uptoBulkAll parts + 1
  | .iface _ d => uptoBulk d + 1
  | .map entries => uptoBulkEntries entries + 1
  | .held _ => 1
def uptoBulkAll {H : Type} : List (DataW H) → Nat
  | [] => 0
  | d :: r => uptoBulk d + uptoBulkAll r
def uptoBulkEntries {H : Type} : List (Lit × DataW H) → Nat
  | [] => 0
  | x :: r => uptoBulkEntry x + uptoBulkEntries r
def uptoBulkEntry {H : Type} : Lit × DataW H → Nat
  | (.string bytes, d) => bytes.length + uptoBulk d + 1
  | (_, d) => uptoBulk d + 1
 end
def uptoSmall : (H : Type) → List (DataW H) → Bool := fun _ ds => decide (uptoBulkAll ds ≤ 1048576)
def OpenSpec.upto (s : _root_.Go.ChangeSpec) : _root_.Go.OpenSpec := { _root_.Go.OpenSpec.ofChange s with cond := some uptoSmall }

/-- 'munchlaw.Checks', WHERE WHAT IT READS IS OF BULK AT MOST 1048576: true; the input reads as it did. -/
def checksUptoRow : OpenClaim := { program := "ytoaaklhpmhjhkaa", sum := "7fb7e053d6a6644e5ba9e1f6eff521bc15caba204124be17b66890538a8adc17", func := "munch/munchlaw.Checks", spec := "checks", recurses := true, apart := false, narrowed := true }
def ChecksUptoSaid : Prop := checksUptoRow.holds Try.pinned (OpenSpec.upto checksSpec)

/-- 'munchlaw.Encodes', WHERE WHAT IT READS IS OF BULK AT MOST 1048576: true; the input reads as it did. -/
def encodesUptoRow : OpenClaim := { program := "ytoaaklhpmhjhkaa", sum := "7fb7e053d6a6644e5ba9e1f6eff521bc15caba204124be17b66890538a8adc17", func := "munch/munchlaw.Encodes", spec := "encodes", apart := false, narrowed := true }
def EncodesUptoSaid : Prop := encodesUptoRow.holds Try.pinned (OpenSpec.upto encodesSpec)

/-- 'munchlaw.Loads', WHERE WHAT IT READS IS OF BULK AT MOST 1048576: true; the input reads as it did. -/
def loadsUptoRow : OpenClaim := { program := "ytoaaklhpmhjhkaa", sum := "7fb7e053d6a6644e5ba9e1f6eff521bc15caba204124be17b66890538a8adc17", func := "munch/munchlaw.Loads", spec := "loads", apart := false, narrowed := true }
def LoadsUptoSaid : Prop := loadsUptoRow.holds Try.pinned (OpenSpec.upto loadsSpec)

/-- 'munchlaw.Steps', WHERE WHAT IT READS IS OF BULK AT MOST 1048576: true; the input reads as it did. -/
def stepsUptoRow : OpenClaim := { program := "ytoaaklhpmhjhkaa", sum := "7fb7e053d6a6644e5ba9e1f6eff521bc15caba204124be17b66890538a8adc17", func := "munch/munchlaw.Steps", spec := "steps", recurses := true, apart := false, narrowed := true }
def StepsUptoSaid : Prop := stepsUptoRow.holds Try.pinned (OpenSpec.upto stepsSpec)

/-- 'munchlaw.Scans', WHERE WHAT IT READS IS OF BULK AT MOST 1048576: true; the input reads as it did. -/
def scansUptoRow : OpenClaim := { program := "ytoaaklhpmhjhkaa", sum := "7fb7e053d6a6644e5ba9e1f6eff521bc15caba204124be17b66890538a8adc17", func := "munch/munchlaw.Scans", spec := "scans", recurses := true, apart := false, narrowed := true }
def ScansUptoSaid : Prop := scansUptoRow.holds Try.pinned (OpenSpec.upto scansSpec)

/-- 'munchlaw.Packs', WHERE WHAT IT READS IS OF BULK AT MOST 1048576: true; the input reads as it did. -/
def packsUptoRow : OpenClaim := { program := "ytoaaklhpmhjhkaa", sum := "7fb7e053d6a6644e5ba9e1f6eff521bc15caba204124be17b66890538a8adc17", func := "munch/munchlaw.Packs", spec := "packs", apart := false, narrowed := true }
def PacksUptoSaid : Prop := packsUptoRow.holds Try.pinned (OpenSpec.upto packsSpec)

/-- 'munchkeep.Moved', WHERE WHAT IT READS IS OF BULK AT MOST 1048576: true; the input reads as it did. -/
def movedUptoRow : OpenClaim := { program := "ytoaaklhpmhjhkaa", sum := "7fb7e053d6a6644e5ba9e1f6eff521bc15caba204124be17b66890538a8adc17", func := "munch/munchkeep.Moved", spec := "moved", apart := false, narrowed := true }
def MovedUptoSaid : Prop := movedUptoRow.holds Try.pinned (OpenSpec.upto movedSpec)

/-- 'munchkeep.Munched', WHERE WHAT IT READS IS OF BULK AT MOST 1048576: true; the input reads as it did. -/
def munchedUptoRow : OpenClaim := { program := "ytoaaklhpmhjhkaa", sum := "7fb7e053d6a6644e5ba9e1f6eff521bc15caba204124be17b66890538a8adc17", func := "munch/munchkeep.Munched", spec := "munched", apart := false, narrowed := true }
def MunchedUptoSaid : Prop := munchedUptoRow.holds Try.pinned (OpenSpec.upto munchedSpec)

end Rows
end Go.Proofs.Ytoaaklhpmhjhkaa
