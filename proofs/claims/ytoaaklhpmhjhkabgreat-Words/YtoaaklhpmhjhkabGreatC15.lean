import Derived.Laws.IdiomCopy
import Derived.Test.YtoaaklhpmhjhkabGreatC14
set_option maxRecDepth 100000
set_option maxHeartbeats 4000000
set_option linter.all false
namespace Go.Proofs.YtoaaklhpmhjhkabGreat
open Go.RowKit
theorem Y4 (B b _o:Nat) (hb:B<=b):∀(vs:List Value) (w:World) (o:Nat),Below B w (w.setCells b o vs)
 |[],_w,_=>Below.refl _ _
 |v::r,w,o=>((Below.refl B w).setCell (p:=⟨b,o,none⟩) hb v).trans (Y4 B b (o+1) hb r _ _)
end Go.Proofs.YtoaaklhpmhjhkabGreat
