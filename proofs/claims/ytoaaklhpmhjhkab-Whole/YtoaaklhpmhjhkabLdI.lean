/-
  Contracts of the law's full and reads.
-/
import Derived.Test.YtoaaklhpmhjhkabLdH
namespace Go.Proofs.Ytoaaklhpmhjhkab
open Go.RowKit

end Go.Proofs.Ytoaaklhpmhjhkab
