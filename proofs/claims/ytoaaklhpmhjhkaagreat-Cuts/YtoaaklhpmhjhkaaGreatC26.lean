import Derived.ProofKit
import Derived.OpenShut
import Derived.ChangeOld
import Derived.SliceStrings
import Derived.SizedLaws
import Derived.Test.YtoaaklhpmhjhkaaGreatC25
set_option maxRecDepth 100000
set_option maxHeartbeats 4000000
set_option linter.all false
namespace Go.Proofs.YtoaaklhpmhjhkaaGreat
open Go.ChangeShapes Go.WideShapes Go.ChangeAt Go.RowKit
def Tryz.own:ownKnob Tryz.prog.godebug=none:=by kernel_rfl
def Tryz.laidOut:laidOutB Tryz.prog=true:=by kernel_rfl
def Tryz.bytesStr:Tryz.prog.bytesOf 9=16:=by kernel_rfl
def Ij(os:Os)(started:os.Started)(H:Type)(enc:TypeId × Value->H):
  ReturnsInHanded {} Tryz.checked os 5 .any (Rows.cutsSpec.pre6 enc Tryz.prog Tryz.f5 Rows.cutsRow.domain false) (Rows.cutsSpec.post enc Tryz.prog Tryz.f5 false true false false):=by
 refine returnsInHanded_of_change_sized (C:=Tryz.checked) Tryz.own started (by kernel_rfl) Tryz.func5
  (ChangeSpec.witness6 (enc:=enc) (C:=Tryz.checked) false ⟨#[],#[.slice none 0 0,.string ⟨#[]⟩],[]⟩ 8 (by kernel_rfl) (by kernel_rfl) (by kernel_rfl) (by kernel_rfl)) ?_
 intro W base d S gs L r V O J M;have o:∀(j:Nat) t v,Tryz.f5.params[j]?=some t->d[j]?=some v->Value.okWide Tryz.prog W .any base t v:=r;have B:(DataW.weightsEach Tryz.prog (Tryz.f5.params.toList++Rows.cutsSpec.plain.varTypes Tryz.prog) (S++gs)).all (·<=reachBytes)=true:=J;have G:=V;obtain⟨p,q,F,hV,rfl,aa,ab⟩:=V;have U:DataW.TrodAll enc Tryz.prog W 0 (λ_=>true) true Tryz.f5.params.toList d.toList S p:=F;rw[Tryz.params5]at U o B;obtain⟨v0,s0,d0,e0,p0,q0,g0,rfl,rfl,h0,r0⟩:=trodAll_cons U;obtain⟨v1,s1,d1,T,p1,q1,rfl,rfl,rfl,h1,r1⟩:=trodAll_cons r0;obtain⟨rfl,rfl,rfl⟩:=trodAll_nil r1;have ea:d=#[v0,v1]:=by cases d;simp_all
 subst ea;obtain⟨rfl,rfl⟩:=trodVars_none hV;obtain⟨a0,a,g,rfl⟩:=okWide_slice u_p (o 0 22 v0 rfl rfl);obtain⟨s,rfl⟩:=okWide_string u_h (o 1 9 v1 rfl rfl);have Z:=h0;have k1:=h1;have Q:∀x∈p0,x.block<W.heap.size:=by obtain⟨m,N⟩:=Z;exact DataW.trod_lt m _ _ _ N
 have R:∀x∈p1,x.block<W.heap.size:=by obtain⟨m,N⟩:=k1;exact DataW.trod_lt m _ _ _ N
 have w:s.size<=140737488355328:=by
  obtain⟨m1,h⟩:=h1;obtain⟨s',T,e2,_⟩:=DataW.trod_string u_h h;cases T;have e3:d1=.lit (.string s.data.toList):=congrArg Prod.fst e2;have:=sized_string B (j:=1) (t:=9) rfl (by rw[e3];rfl);have hr:=reachBytes_lt;simp at this;have:s.size=s.data.size:=rfl;omega
 have D:Cp 5 #[.slice a0 a g,.string s] W λe w'=>e=.returned (.bool true)/\Bl W w':=by
  obtain⟨fuel,hf⟩:=h0;rcases open_strings u_p u_h (by kernel_rfl) hf with ⟨n,_⟩|⟨x,l,c,y,n,_,hl,N,hz,hx,k,P⟩
  .simp[Value.cells]at n;obtain⟨rfl,rfl,rfl⟩:=n;exact GY none 0 0 (λ_=>ByteArray.empty) s W (by omega) (λi Y=>by omega) (λh=>by omega) w
  simp[Value.cells]at n;obtain⟨rfl,rfl,rfl⟩:=n;have ac:y.length=g:=by simpa using hz
  have hd:d0=.slice (strs (y.take a)) (strs (y.drop a)):=congrArg Prod.fst hx;have f:=sized_slice B (j:=0) (t:=22) (e:=9) (elems:=strs (y.take a)) (spare:=strs (y.drop a)) rfl (by rw[hd];rfl) u_p;rw[Tryz.bytesStr]at f;simp only[strs,Zy,eE,dY,reachBytes]at f;refine GY (some x) a g (λi=>y.getD i ByteArray.empty) s W (by omega) (λi Y=>?_) (λh=>?_) w
  .have:y.getD i ByteArray.empty∈y:=by
    rw[Zf,Zd (by omega)];exact gA _
   exact P _ this
  obtain⟨b,E,K⟩:=x;have X:=k 0 (by omega);have A:K=none:=by simpa[Addr.add]using World.cell?_spot X
  subst A;have u:∀j:Nat,(⟨b,E,none⟩:Addr).add j=⟨b,E+j,none⟩:=λj=>by unfold Addr.add;split<;>simp_all
  have I:=Ze W _ X;rw[u]at I;refine⟨b,E,rfl,I,λi Y=>?_⟩;have:=k i (by omega);rw[u]at this;exact this
 clear F r;refine D.mono λe W' ⟨he,z⟩=>?_
 subst he;rw[dv]at G;exact⟨_,rfl,_,_,_,[],_,[],G,trodAll_mk1 (shut_bool Tryz.underlying4 _),trodAll_mk2 (Below.trod Tryz.laidOut (by kernel_rfl) (gG (by kernel_rfl)) Z z Q) (Below.trod Tryz.laidOut (by kernel_rfl) (gG (by kernel_rfl)) k1 z R),rfl,z.frame _,λh=>by cases h⟩
theorem cuts_done:Rows.CutsSaid:=
 OpenClaim.holds_of_wide 5 Tryz.f5 rfl rfl rfl rfl rfl rfl rfl ⟨rfl,rfl,rfl,rfl,rfl⟩ rfl rfl rfl rfl rfl (by kernel_rfl) Tryz.func5 (by kernel_rfl)
  (gG (by kernel_rfl)) (by unfold Func.isWrapper;first|(rw[dF (by decide +kernel)];kernel_rfl)|(rw[dG (by decide +kernel)];exact⟨rfl,rfl⟩))
  (λc a H b _=>Ij c a H b)
