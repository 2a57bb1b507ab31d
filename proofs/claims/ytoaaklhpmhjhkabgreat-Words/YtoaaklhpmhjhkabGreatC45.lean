import Derived.ProofKit
import Derived.OpenShut
import Derived.ChangeOld
import Derived.ChangeSame
import Derived.ChangeSlices
import Derived.SizedLaws
import Derived.Test.YtoaaklhpmhjhkabGreatC05
set_option maxRecDepth 100000
set_option maxHeartbeats 4000000
set_option linter.all false
namespace Go.Proofs.YtoaaklhpmhjhkabGreat
open Go.ChangeShapes Go.WideShapes Go.ChangeAt Go.RowKit
namespace Kp
theorem own:ownKnob Tryz.prog.godebug=none:=by kernel_rfl
theorem laidOut:laidOutB Tryz.prog=true:=by kernel_rfl
theorem arg_string {H:Type}{enc:TypeId × Value->H}{W:World}{fuel:Nat}{s:ByteArray}{d:DataW H}{p:List MemPlace}{ts:List TypeId}{ds:List (DataW H)}{j:Nat} (h:DataW.trod enc Tryz.prog W 0 (fun _=>true) true fuel 9 [.string s]=some (d,p))
  (hsz:(DataW.weightsEach Tryz.prog ts ds).all (·<=reachBytes)=true) (ht:ts[j]?=some 9) (hd:ds[j]?=some d):s.size<=reachBytes:=by
 obtain⟨s',e1,e2,_⟩:=DataW.trod_string u_i h;cases e1;have e3:d=.lit (.string s.data.toList):=congrArg Prod.fst e2;have:=sized_string hsz ht (by rw[hd,e3]);simp at this;exact this
end Kp
end Go.Proofs.YtoaaklhpmhjhkabGreat
