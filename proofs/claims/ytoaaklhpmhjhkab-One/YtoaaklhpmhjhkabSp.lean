import Derived.Test.YtoaaklhpmhjhkabSk
import Derived.Test.YtoaaklhpmhjhkabRows
namespace Go.Proofs.Ytoaaklhpmhjhkab
abbrev Cp := Calls Try.prog
end Go.Proofs.Ytoaaklhpmhjhkab
