import Derived.ProofKit
import Derived.OpenShut
import Derived.ChangeOld
import Derived.SliceStrings
import Derived.SizedLaws
import Derived.Test.YtoaaklhpmhjhkaaGreatC46
set_option maxRecDepth 100000
set_option maxHeartbeats 4000000
set_option linter.all false
namespace Go.Proofs.YtoaaklhpmhjhkaaGreat
open Go.ChangeShapes Go.WideShapes Go.ChangeAt Go.RowKit
theorem Tryz.own:ownKnob Tryz.prog.godebug=none:=by kernel_rfl
theorem Tryz.laidOut:laidOutB Tryz.prog=true:=by kernel_rfl
theorem Tryz.bytesStr:Tryz.prog.bytesOf 9=16:=by kernel_rfl
theorem q6F (os:Os) (started:os.Started) (H:Type) (enc:TypeId × Value->H):
  ReturnsInHanded {} Tryz.checked os 3 .any (Rows.buildsSpec.pre6 enc Tryz.prog Tryz.f3 Rows.buildsRow.domain false) (Rows.buildsSpec.post enc Tryz.prog Tryz.f3 false true false false):=by
 refine returnsInHanded_of_change_sized (C:=Tryz.checked) Tryz.own started (by kernel_rfl) Tryz.func3
  (ChangeSpec.witness6 (enc:=enc) (C:=Tryz.checked) false ⟨#[],#[.slice none 0 0],[]⟩ 8 (by kernel_rfl) (by kernel_rfl) (by kernel_rfl) (by kernel_rfl)) ?_
 intro W base o N Y G n Q K E I;have s:∀(j:Nat) t v,Tryz.f3.params[j]?=some t->o[j]?=some v->Value.okWide Tryz.prog W .any base t v:=n;have D:(DataW.weightsEach Tryz.prog (Tryz.f3.params.toList++Rows.buildsSpec.plain.varTypes Tryz.prog) (N++Y)).all (·<=reachBytes)=true:=E;have J:=Q;obtain⟨p,q,A,Z,rfl,aa,ab⟩:=Q;have P:DataW.TrodAll enc Tryz.prog W 0 (λ_=>true) true Tryz.f3.params.toList o.toList N p:=A;rw[Tryz.params3]at P s D;obtain⟨v0,X,rfl,rfl,O⟩:=trodAll_one P;obtain⟨rfl,rfl⟩:=trodVars_none Z;obtain⟨V,a,f,rfl⟩:=okWide_slice Tryz.underlying22 (s 0 22 v0 rfl rfl);have U:=O;have M:∀x∈p,x.block<W.heap.size:=by obtain⟨m,T⟩:=U;exact DataW.trod_lt m _ _ _ T
 have y:Calls Tryz.prog 3 #[.slice V a f] W λe w'=>e=.returned (.bool true)/\Below W.heap.size W w':=by
  obtain⟨fuel,hf⟩:=O;rcases open_strings Tryz.underlying22 Tryz.underlying9 (by kernel_rfl) hf with ⟨k,_⟩|⟨x,l,c,u,k,_,hl,T,hz,hx,g,L⟩
  ·simp[Value.cells]at k;obtain⟨rfl,rfl,rfl⟩:=k;exact q5E none 0 0 (λ_=>ByteArray.empty) W (by omega) (λi S=>by omega) (λh=>by omega)
  simp[Value.cells]at k;obtain⟨rfl,rfl,rfl⟩:=k;have ac:u.length=f:=by simpa using hz
  have hd:X=.slice (strs (u.take a)) (strs (u.drop a)):=congrArg Prod.fst hx;have d:=sized_slice D (j:=0) (t:=22) (e:=9) (elems:=strs (u.take a)) (spare:=strs (u.drop a)) rfl (by rw[hd];rfl) Tryz.underlying22;rw[Tryz.bytesStr]at d;simp only[strs,List.length_map,List.length_take,List.length_drop,reachBytes]at d;refine q5E (some x) a f (λi=>u.getD i ByteArray.empty) W (by omega) (λi S=>?_) (λh=>?_)
  ·have:u.getD i ByteArray.empty∈u:=by
    rw[List.getD_eq_getElem?_getD,List.getElem?_eq_getElem (by omega)];exact List.getElem_mem _
   exact L _ this
  obtain⟨b,off,F⟩:=x;have R:=g 0 (by omega);have w:F=none:=by simpa[Addr.add]using World.cell?_spot R
  subst w;have r:∀j:Nat,(⟨b,off,none⟩:Addr).add j=⟨b,off+j,none⟩:=λj=>by unfold Addr.add;split<;>simp_all
  have B:=World.block_lt_of_cell? W _ R;rw[r]at B;refine⟨b,off,rfl,B,λi S=>?_⟩;have:=g i (by omega);rw[r]at this;exact this
 clear A n;refine y.mono λe W' ⟨he,z⟩=>?_
 subst he;exact⟨_,rfl,_,_,_,[],_,[],J,trodAll_mk1 (shut_bool Tryz.underlying4 _),trodAll_mk1 (Below.trod Tryz.laidOut (by kernel_rfl) (of_decide_eq_true (by kernel_rfl)) U z M),rfl,z.frame _,λh=>by cases h⟩
theorem builds_done:Rows.BuildsSaid:=
 OpenClaim.holds_of_wide 3 Tryz.f3 rfl rfl rfl rfl rfl rfl rfl ⟨rfl,rfl,rfl,rfl,rfl⟩ rfl rfl rfl rfl rfl (by kernel_rfl) Tryz.func3 (by kernel_rfl)
  (of_decide_eq_true (by kernel_rfl)) (by unfold Func.isWrapper;first|(rw[if_pos (by decide +kernel)];kernel_rfl)|(rw[if_neg (by decide +kernel)];exact⟨rfl,rfl⟩))
  (λc a H b _=>q6F c a H b)
end Go.Proofs.YtoaaklhpmhjhkaaGreat
