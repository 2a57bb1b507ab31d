import Derived.Laws.IdiomCopy
import Derived.Test.YtoaaklhpmhjhkaaGreatC07
set_option maxRecDepth 100000
set_option maxHeartbeats 4000000
set_option linter.all false
namespace Go.Proofs.YtoaaklhpmhjhkaaGreat
open Go.RowKit
def Y6(B b _o:Nat)(z:B<=b):∀(vs:List Value) (w:World) (o:Nat),Below B w (w.setCells b o vs)
 |[],_w,_=>Zk _ _
 |v::r,w,o=>((Zk B w).setCell (p:=(a_ b o)) z v).trans (Y6 B b (o+1) z r _ _)
