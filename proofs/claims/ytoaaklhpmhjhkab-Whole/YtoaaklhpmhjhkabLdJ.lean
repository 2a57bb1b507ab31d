/-
  Contract of the reference's numbers.
-/
import Derived.Test.YtoaaklhpmhjhkabLdI
import Derived.Test.YtoaaklhpmhjhkabEncN
namespace Go.Proofs.Ytoaaklhpmhjhkab
open Go.RowKit

end Go.Proofs.Ytoaaklhpmhjhkab
