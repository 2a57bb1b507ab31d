import Derived.Test.YtoaaklhpmhjhkabGreatC44
import Derived.Test.YtoaaklhpmhjhkabGreatC45
set_option maxRecDepth 100000
set_option maxHeartbeats 4000000
set_option linter.all false
namespace Go.Proofs.YtoaaklhpmhjhkabGreat
open Go.ChangeShapes Go.WideShapes Go.ChangeAt Go.RowKit
theorem Kp.bytesStr:Tryz.prog.bytesOf 9=16:=by kernel_rfl
theorem Kp.arg_strs {H:Type}{enc:TypeId × Value->H}{W:World}{fuel:Nat}{e:Value}{d:DataW H}{p:List MemPlace}{ts:List TypeId}{ds:List (DataW H)}{j:Nat} (h:DataW.trod enc Tryz.prog W 0 (fun _=>true) true fuel 22 [e]=some (d,p))
  (hsz:(DataW.weightsEach Tryz.prog ts ds).all (·<=reachBytes)=true) (ht:ts[j]?=some 22) (hd:ds[j]?=some d):
  ∃(ad:Option Addr) (len cap:Nat) (f:Nat->ByteArray),e=.slice ad len cap/\Qr ad f len W/\len<=17592186044416:=by
 rcases open_strings u_n u_i (by kernel_rfl) h with ⟨hcs,_⟩|⟨x,l,c,ss,hcs,_,hl,hm,hz,hx,hcell,hws⟩
 ·simp at hcs;exact⟨none,0,0,fun _=>⟨#[]⟩,hcs,fun i hi=>by omega,by omega⟩
 ·simp at hcs;have hz':ss.length=c:=by simpa using hz
  have hx1:d=.slice (strs (ss.take l)) (strs (ss.drop l)):=congrArg Prod.fst hx;have hlen:l<=17592186044416:=by
   have:=sized_slice hsz ht (by rw[hd,hx1]) u_n;rw[bytesStr]at this;unfold reachBytes at this;simp[strs]at this;omega
  refine⟨some x,l,c,fun i=>ss.getD i ByteArray.empty,hcs,fun i hi=>?_,hlen⟩;obtain⟨b,off,spot⟩:=x;have hc:=hcell i (by omega);have hspot:spot=none:=by
   have h0:=hcell 0 (by omega);simpa[Addr.add]using World.cell?_spot h0
  subst hspot;refine⟨b,off,rfl,?_⟩;rw[Addr.add_lit]at hc;exact hc
theorem Ph (os:Os) (started:os.Started) (H:Type) (enc:TypeId × Value->H):
  ReturnsInHanded {} Tryz.checked os 3 .any (Rows.wordsSpec.pre6 enc Tryz.prog Tryz.f3 Rows.wordsRow.domain false) (Rows.wordsSpec.post enc Tryz.prog Tryz.f3 false true false false):=by
 refine returnsInHanded_of_change_sized (C:=Tryz.checked) Kp.own started (by kernel_rfl) Tryz.func3
  (ChangeSpec.witness6 (enc:=enc) (C:=Tryz.checked) false ⟨#[],#[.slice none 0 0,.string ⟨#[]⟩],[]⟩ 8 (by kernel_rfl) (by kernel_rfl) (by kernel_rfl) (by kernel_rfl)) ?_
 intro W base args ds gs before hval0 hW hcnd0 hsz0 hholds;have hval:=hval0;have hsz:=hsz0;have hW':=hW;obtain⟨p,q,hA0,hV,rfl,hfz,hnd⟩:=hW;have hA:=hA0;rw[Tryz.params3]at hA hval hsz;obtain⟨v0,s0,d0,e0,p0,q0,g0,rfl,rfl,h0,r0⟩:=trodAll_cons hA;obtain⟨v1,s1,d1,e1,p1,q1,rfl,rfl,rfl,h1,r1⟩:=trodAll_cons r0;obtain⟨rfl,rfl,rfl⟩:=trodAll_nil r1;have ea:args=#[v0,v1]:=by cases args;simp_all
 subst ea;obtain⟨rfl,rfl⟩:=trodVars_none hV;obtain⟨ad0,len0,cap0,rfl⟩:=okWide_slice u_n (hval 0 22 v0 rfl rfl);obtain⟨s,rfl⟩:=okWide_string u_i (hval 1 9 v1 rfl rfl);have k0:=h0;have k1:=h1;have lt0:∀x∈p0,x.block<W.heap.size:=by obtain⟨m,hm⟩:=k0;exact DataW.trod_lt m _ _ _ hm
 have lt1:∀x∈p1,x.block<W.heap.size:=by obtain⟨m,hm⟩:=k1;exact DataW.trod_lt m _ _ _ hm
 have hwalk:Calls Tryz.prog 3 #[.slice ad0 len0 cap0,.string s] W fun e w'=>e=.returned (.bool true)/\Below W.heap.size W w':=by
  obtain⟨m0,f0⟩:=h0;obtain⟨m1,f1⟩:=h1;have hlen:=Kp.arg_string f1 hsz (j:=1) rfl rfl;have hr:=reachBytes_lt;obtain⟨a2,n2,c2,g2,y2,e2,z2⟩:=Kp.arg_strs f0 hsz (j:=0) rfl rfl;rw[y2];exact J2 a2 n2 c2 g2 s W z2 e2 (by omega)
 clear hA0 hval0;refine hwalk.mono fun e W' ⟨he,bel⟩=>?_
 subst he;rw[List.append_nil]at hW';exact⟨_,rfl,_,_,_,[],_,[],hW',trodAll_mk1 (shut_bool Tryz.underlying4 _),trodAll_mk2 (Below.trod Kp.laidOut (by kernel_rfl) (of_decide_eq_true (by kernel_rfl)) k0 bel lt0) (Below.trod Kp.laidOut (by kernel_rfl) (of_decide_eq_true (by kernel_rfl)) k1 bel lt1),rfl,bel.frame _,fun h=>by cases h⟩
theorem words_done:Rows.WordsSaid:=
 OpenClaim.holds_of_wide 3 Tryz.f3 rfl rfl rfl rfl rfl rfl rfl ⟨rfl,rfl,rfl,rfl,rfl⟩ rfl rfl rfl rfl rfl (by kernel_rfl) Tryz.func3 (by kernel_rfl)
  (of_decide_eq_true (by kernel_rfl)) (by unfold Func.isWrapper;first|(rw[if_pos (by decide +kernel)];kernel_rfl)|(rw[if_neg (by decide +kernel)];exact⟨rfl,rfl⟩))
  (fun os started H enc _=>Ph os started H enc)
end Go.Proofs.YtoaaklhpmhjhkabGreat
