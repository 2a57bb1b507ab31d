import Derived.ProofKit
import Derived.OpenShut
import Derived.ChangeOld
import Derived.SliceStrings
import Derived.SizedLaws
import Derived.Test.YtoaaklhpmhjhkaaGreatC32
set_option maxRecDepth 100000
set_option maxHeartbeats 4000000
set_option linter.all false
namespace Go.Proofs.YtoaaklhpmhjhkaaGreat
open Go.ChangeShapes Go.WideShapes Go.ChangeAt Go.RowKit
theorem Tryz.own:ownKnob Tryz.prog.godebug=none:=by kernel_rfl
theorem Tryz.laidOut:laidOutB Tryz.prog=true:=by kernel_rfl
theorem Tryz.bytesStr:Tryz.prog.bytesOf 9=16:=by kernel_rfl
theorem Qk (os:Os) (ae:os.Started) (H:Type) (enc:TypeId × Value->H):
  ReturnsInHanded {} Tryz.checked os 4 .any (Rows.generatesSpec.pre6 enc Tryz.prog Tryz.f4 Rows.generatesRow.domain false) (Rows.generatesSpec.post enc Tryz.prog Tryz.f4 false true false false):=by
 refine returnsInHanded_of_change_sized (C:=Tryz.checked) Tryz.own ae (by kernel_rfl) Tryz.func4
  (ChangeSpec.witness6 (enc:=enc) (C:=Tryz.checked) false ⟨#[],#[sN],[]⟩ 8 (by kernel_rfl) (by kernel_rfl) (by kernel_rfl) (by kernel_rfl)) ?_
 intro W base n O Y G w Q L E I;have r:∀(j:Nat) t v,Tryz.f4.params[j]?=some t->n[j]?=some v->Value.okWide Tryz.prog W .any base t v:=w;have D:(DataW.weightsEach Tryz.prog (Tryz.f4.params.toList++Rows.generatesSpec.plain.varTypes Tryz.prog) (O++Y)).all (·<=reachBytes)=true:=E;have K:=Q;obtain⟨p,q,J,Z,rfl,aa,ab⟩:=Q;have P:DataW.TrodAll enc Tryz.prog W 0 (λ_=>true) true Tryz.f4.params.toList n.toList O p:=J;rw[Tryz.params4]at P r D;obtain⟨v0,X,rfl,rfl,h0⟩:=trodAll_one P;obtain⟨rfl,rfl⟩:=trodVars_none Z;obtain⟨V,a,f,rfl⟩:=okWide_slice u_h (r 0 22 v0 rfl rfl);have U:=h0;have N:∀x∈p,x.block<W.heap.size:=by obtain⟨m,T⟩:=U;exact DataW.trod_lt m _ _ _ T
 have y:Cp 4 #[.slice V a f] W λe w'=>e=.returned (.bool true)/\Bl W w':=by
  obtain⟨fuel,hf⟩:=h0;rcases open_strings u_h u_i (by kernel_rfl) hf with ⟨k,_⟩|⟨x,l,c,s,k,_,hl,T,hz,hx,g,M⟩
  ·simp[Value.cells]at k;obtain⟨rfl,rfl,rfl⟩:=k;exact RY none 0 0 (λ_=>ByteArray.empty) W (by omega) (λi S=>by omega) (λh=>by omega)
  simp[Value.cells]at k;obtain⟨rfl,rfl,rfl⟩:=k;have ac:s.length=f:=by simpa using hz
  have hd:X=.slice (strs (s.take a)) (strs (s.drop a)):=congrArg Prod.fst hx;have d:=sized_slice D (j:=0) (t:=22) (e:=9) (elems:=strs (s.take a)) (spare:=strs (s.drop a)) rfl (by rw[hd];rfl) u_h;rw[Tryz.bytesStr]at d;simp only[strs,Zy,List.length_take,List.length_drop,reachBytes]at d;refine RY (some x) a f (λi=>s.getD i ByteArray.empty) W (by omega) (λi S=>?_) (λh=>?_)
  ·have:s.getD i ByteArray.empty∈s:=by
    rw[Zf,Zd (by omega)];exact List.getElem_mem _
   exact M _ this
  obtain⟨b,z,F⟩:=x;have R:=g 0 (by omega);have u:F=none:=by simpa[Addr.add]using World.cell?_spot R
  subst u;have o:∀j:Nat,((a_ b z):Addr).add j=(a_ b (z+j)):=λj=>by unfold Addr.add;split<;>simp_all
  have B:=Ze W _ R;rw[o]at B;refine⟨b,z,rfl,B,λi S=>?_⟩;have:=g i (by omega);rw[o]at this;exact this
 refine y.mono λe W' ⟨he,A⟩=>?_
 subst he;exact⟨_,rfl,_,_,_,[],_,[],K,trodAll_mk1 (shut_bool Tryz.underlying4 _),trodAll_mk1 (Below.trod Tryz.laidOut (by kernel_rfl) (of_decide_eq_true (by kernel_rfl)) U A N),rfl,A.frame _,λh=>by cases h⟩
theorem generates_done:Rows.GeneratesSaid:=
 OpenClaim.holds_of_wide 4 Tryz.f4 rfl rfl rfl rfl rfl rfl rfl ⟨rfl,rfl,rfl,rfl,rfl⟩ rfl rfl rfl rfl rfl (by kernel_rfl) Tryz.func4 (by kernel_rfl)
  (of_decide_eq_true (by kernel_rfl)) (by unfold Func.isWrapper;first|(rw[if_pos (by decide +kernel)];kernel_rfl)|(rw[if_neg (by decide +kernel)];exact⟨rfl,rfl⟩))
  (λc a H b _=>Qk c a H b)
end Go.Proofs.YtoaaklhpmhjhkaaGreat
