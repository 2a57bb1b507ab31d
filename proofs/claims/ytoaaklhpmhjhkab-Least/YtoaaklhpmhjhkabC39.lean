import Derived.ProofKit
import Derived.OpenShut
import Derived.ChangeOld
import Derived.ChangeSame
import Derived.ChangeSlices
import Derived.SizedLaws
import Derived.Test.YtoaaklhpmhjhkabC03
set_option maxRecDepth 100000
set_option maxHeartbeats 4000000
set_option linter.all false
namespace Go.Proofs.Ytoaaklhpmhjhkab
open Go.ChangeShapes Go.WideShapes Go.ChangeAt Go.RowKit
namespace Kp
theorem own:ownKnob Try.prog.godebug=none:=by kernel_rfl
theorem laidOut:laidOutB Try.prog=true:=by kernel_rfl
theorem bytesInt:Try.prog.bytesOf 3=8:=by kernel_rfl
theorem inI_of {n:Int} (h:(Lit.int .i64 n).wf=true):LJ n:=by
 simp[Lit.wf,IntKind.min,IntKind.max,IntKind.signed,IntKind.bits]at h;exact⟨by omega,by omega⟩
theorem arg_ints {H:Type}{enc:TypeId × Value->H}{W:World}{fuel:Nat}{e:Value}{d:DataW H}{p:List MemPlace}{ts:List TypeId}{ds:List (DataW H)}{j:Nat} (h:DataW.trod enc Try.prog W 0 (fun _=>true) true fuel 22 [e]=some (d,p))
  (hsz:(DataW.weightsEach Try.prog ts ds).all (·<=reachBytes)=true) (ht:ts[j]?=some 22) (hd:ds[j]?=some d):
  ∃(ad:Option Addr) (len cap:Nat) (f:Nat->Int),e=.slice ad len cap/\IL ad f len W/\(∀i,i<len->LJ (f i))/\len<=17592186044416:=by
 rcases open_ints Try.underlying22 Try.underlying3 (by kernel_rfl) h with ⟨hcs,_⟩|⟨x,l,c,zs,hcs,_,hl,hm,hz,hx,hcell,hws⟩
 ·simp at hcs;exact⟨none,0,0,fun _=>0,hcs,fun i hi=>by omega,fun i hi=>by omega,by omega⟩
 ·simp at hcs;have hz':zs.length=c:=by simpa using hz
  have hx1:d=.slice (lits .i64 (zs.take l)) (lits .i64 (zs.drop l)):=congrArg Prod.fst hx;have hlen:l<=17592186044416:=by
   have:=sized_slice hsz ht (by rw[hd,hx1]) Try.underlying22;rw[bytesInt]at this;unfold reachBytes at this;simp[lits]at this;omega
  refine⟨some x,l,c,fun i=>zs.getD i 0,hcs,fun i hi=>?_,fun i hi=>?_,hlen⟩
  ·obtain⟨b,off,spot⟩:=x;have hc:=hcell i (by omega);have hspot:spot=none:=by
    have h0:=hcell 0 (by omega);simpa[Addr.add]using World.cell?_spot h0
   subst hspot;refine⟨b,off,rfl,?_⟩;rw[Addr.add_lit]at hc;exact hc
  ·refine inI_of (hws _ ?_);show zs.getD i 0∈zs;rw[List.getD_eq_getElem?_getD,List.getElem?_eq_getElem (by omega)];exact List.getElem_mem _
end Kp
end Go.Proofs.Ytoaaklhpmhjhkab
