import Derived.ProofKit
import Derived.OpenShut
import Derived.ChangeOld
import Derived.ChangeSame
import Derived.ChangeSlices
import Derived.SizedLaws
import Derived.Test.YtoaaklhpmhjhkabC36
set_option maxRecDepth 100000
set_option maxHeartbeats 4000000
set_option linter.all false
namespace Go.Proofs.Ytoaaklhpmhjhkab
open Go.ChangeShapes Go.WideShapes Go.ChangeAt Go.RowKit
namespace Kp
theorem own:ownKnob Try.prog.godebug=none:=by kernel_rfl
theorem laidOut:laidOutB Try.prog=true:=by kernel_rfl
theorem inI_of {n:Int} (h:(Lit.int .i64 n).wf=true):Jb n:=by
 simp[Lit.wf,IntKind.min,IntKind.max,IntKind.signed,IntKind.bits]at h;exact⟨by omega,by omega⟩
theorem arg_int {W:World}{base:Nat}{v:Value} (h:Value.okWide Try.prog W .any base 3 v):∃n,v=.int .i64 n/\Jb n:=by
 obtain⟨n,rfl⟩:=okWide_int Try.underlying3 h;refine⟨n,rfl,?_⟩;simp only[Value.okWide,Try.underlying3,Cell.okWide,Cell.ok]at h;simp[IntKind.has,IntKind.min,IntKind.max,IntKind.signed,IntKind.bits]at h;exact⟨by omega,by omega⟩
variable {args : Array Value}{held : Bool}{base : Nat}{spare : Nat → Bool}{P : Program}{w : World}
theorem trodAll_6 {H:Type}{enc:TypeId × Value->H}{ds:List (DataW H)}{t0 t1 t2 t3 t4 t5:TypeId}{ps:List MemPlace} (h:DataW.TrodAll enc P w base spare held [t0,t1,t2,t3,t4,t5] args.toList ds ps):
  ∃v0 v1 v2 v3 v4 v5 d0 d1 d2 d3 d4 d5 p0 p1 p2 p3 p4 p5,args=#[v0,v1,v2,v3,v4,v5]/\ds=[d0,d1,d2,d3,d4,d5]/\ps=p0++(p1++(p2++(p3++(p4++p5))))/\DataW.Trod enc P w base spare held t0 v0 d0 p0/\DataW.Trod enc P w base spare held t1 v1 d1 p1/\DataW.Trod enc P w base spare held t2 v2 d2 p2/\DataW.Trod enc P w base spare held t3 v3 d3 p3/\DataW.Trod enc P w base spare held t4 v4 d4 p4/\DataW.Trod enc P w base spare held t5 v5 d5 p5:=by
 obtain⟨v0,s0,d0,e0,p0,q0,h0,rfl,rfl,g0,r0⟩:=trodAll_cons h;obtain⟨v1,s1,d1,e1,p1,q1,rfl,rfl,rfl,g1,r1⟩:=trodAll_cons r0;obtain⟨v2,s2,d2,e2,p2,q2,rfl,rfl,rfl,g2,r2⟩:=trodAll_cons r1;obtain⟨v3,s3,d3,e3,p3,q3,rfl,rfl,rfl,g3,r3⟩:=trodAll_cons r2;obtain⟨v4,s4,d4,e4,p4,q4,rfl,rfl,rfl,g4,r4⟩:=trodAll_cons r3;obtain⟨v5,s5,d5,e5,p5,q5,rfl,rfl,rfl,g5,r5⟩:=trodAll_cons r4;obtain⟨rfl,rfl,rfl⟩:=trodAll_nil r5;exact⟨v0,v1,v2,v3,v4,v5,d0,d1,d2,d3,d4,d5,p0,p1,p2,p3,p4,p5,by cases args;simp_all,rfl,by simp,g0,g1,g2,g3,g4,g5⟩
end Kp
end Go.Proofs.Ytoaaklhpmhjhkab
