import Derived.Test.YtoaaklhpmhjhkabC38
import Derived.Test.YtoaaklhpmhjhkabC39
set_option maxRecDepth 100000
set_option maxHeartbeats 4000000
set_option linter.all false
namespace Go.Proofs.Ytoaaklhpmhjhkab
open Go.ChangeShapes Go.WideShapes Go.ChangeAt Go.RowKit
theorem Rv (os:Os) (started:os.Started) (H:Type) (enc:TypeId × Value->H):
  ReturnsInHanded {} Try.checked os 7 .any (Rows.leastSpec.pre6 enc Try.prog Try.f7 Rows.leastRow.domain false) (Rows.leastSpec.post enc Try.prog Try.f7 false true false false):=by
 refine returnsInHanded_of_change_sized (C:=Try.checked) Kp.own started (by kernel_rfl) Try.func7
  (ChangeSpec.witness6 (enc:=enc) (C:=Try.checked) false ⟨#[],#[.slice none 0 0],[]⟩ 8 (by kernel_rfl) (by kernel_rfl) (by kernel_rfl) (by kernel_rfl)) ?_
 intro W base args ds gs before hval0 hW hcnd0 hsz0 hholds;have hval:=hval0;have hsz:=hsz0;have hW':=hW;obtain⟨p,q,hA0,hV,rfl,hfz,hnd⟩:=hW;have hA:=hA0;rw[Try.params7]at hA hval hsz;obtain⟨v0,d0,rfl,rfl,h0⟩:=trodAll_one hA;obtain⟨rfl,rfl⟩:=trodVars_none hV;obtain⟨ad,len,cap,rfl⟩:=okWide_slice Try.underlying22 (hval 0 22 v0 rfl rfl);have k0:=h0;have lt0:∀x∈p,x.block<W.heap.size:=by obtain⟨m,hm⟩:=k0;exact DataW.trod_lt m _ _ _ hm
 have hwalk:Calls Try.prog 7 #[.slice ad len cap] W fun e w'=>e=.returned (.bool true)/\Below W.heap.size W w':=by
  obtain⟨m0,f0⟩:=h0;obtain⟨a2,n2,c2,g2,y2,e2,r2,z2⟩:=Kp.arg_ints f0 hsz (j:=0) rfl rfl;rw[y2];exact MZ _ W (Qe a2 n2 c2 g2 W z2 e2 r2)
 clear hA0 hval0;refine hwalk.mono fun e W' ⟨he,bel⟩=>?_
 subst he;exact⟨_,rfl,_,_,_,[],_,[],hW',trodAll_mk1 (shut_bool Try.underlying4 _),trodAll_mk1 (Below.trod Kp.laidOut (by kernel_rfl) (of_decide_eq_true (by kernel_rfl)) k0 bel lt0),rfl,bel.frame _,fun h=>by cases h⟩
theorem least_done:Rows.LeastSaid:=
 OpenClaim.holds_of_wide 7 Try.f7 rfl rfl rfl rfl rfl rfl rfl ⟨rfl,rfl,rfl,rfl,rfl⟩ rfl rfl rfl rfl rfl (by kernel_rfl) Try.func7 (by kernel_rfl)
  (of_decide_eq_true (by kernel_rfl)) (by unfold Func.isWrapper;first|(rw[if_pos (by decide +kernel)];kernel_rfl)|(rw[if_neg (by decide +kernel)];exact⟨rfl,rfl⟩))
  (fun os started H enc _=>Rv os started H enc)
end Go.Proofs.Ytoaaklhpmhjhkab
