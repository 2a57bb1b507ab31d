import Derived.Test.YtoaaklhpmhjhkabGreatC06
set_option maxRecDepth 100000
set_option maxHeartbeats 4000000
set_option linter.all false
namespace Go.Proofs.YtoaaklhpmhjhkabGreat
open Go.RowKit
open Bm
def XO (K:Nat) (rw:Nat->Nat->Int) (n:Nat):List Int:=(List.range n).map fun t=>rw (t/K) (t%K)
theorem NY (K:Nat) (rw:Nat->Nat->Int) (n:Nat):XO K rw (n+1)=XO K rw n++[rw (n/K) (n%K)]:=by simp[XO,List.range_succ]
theorem Q8 (K:Nat) (rw:Nat->Nat->Int) (n:Nat):(XO K rw n).length=n:=by simp[XO]
variable {a:Act}{ops:Array Oper}{Q:Exit->Act->World->Prop}{lf lo:List Int}{rest:List Oper}{K S b base base' cap g k m n t:Nat}{f:Nat->Int}{E hs:Nat->N_}{rw:Nat->Nat->Int}{ob:Obj}{o:Oper}{ha:Option Addr}{row:Option Nat}{v vf vl vo:Value}{W W' W1 w w' w5:World}
theorem Sp {s:Nat} (hk:k<K):(s*K+k)/K=s/\(s*K+k)%K=k:=by
 have hp:0<K:=by omega
 rw[Nat.mul_comm,Nat.mul_add_div hp,Nat.div_eq_of_lt hk,Nat.add_zero,Nat.mul_add_mod,Nat.mod_eq_of_lt hk];exact⟨rfl,rfl⟩
theorem MJ {s:Nat} (hs:s<S) (hk:k<K):(XO K rw (S*K)).getD (s*K+k) 0=rw s k:=by
 have h:s*K+k<S*K:=by
  have:(s+1)*K<=S*K:=Nat.mul_le_mul_right _ hs;rw[Nat.add_mul]at this;omega
 obtain⟨e1,e2⟩:=Sp (s:=s) hk;simp[XO,List.getD_eq_getElem?_getD,h,e1,e2]
def YT (A:Aut) (E:Nat->Nat->Bool) (s k:Nat):Int:=gAt A (idxI E) ((reps E A.N).getD s 0) k
theorem MI (gb:Nat) (A:Aut) (ta:Option Addr) (tc:Nat) (sv:Value) (E:Nat->Nat->Bool) (b1 b2:Nat) (vo vf:Value) (w:World) (hA:Aut.Small A) (hr:∀s k,s<A.N->k<A.K->-1<=A.to s k/\A.to s k<A.N) (hG:Gr gb A ta tc sv w) (ho:OwnL b1 vo (V4 E A.N) w) (hf:OwnL b2 vf (YP E A.N) w):
  Calls Tryz.prog 45 #[.pointer (some ⟨gb,0,none⟩),.agg #[vo,vf]] w fun e w'=>∃v,e=.returned v/\OwnL w.heap.size v (XO A.K (YT A E) (cnt E A.N*A.K)) w'/\Below w.heap.size w w':=by
 have hn:=hA.n;have hk2:=hA.k;have hcn:=cnt_le E A.N;obtain⟨oa,oc,hvo,ilo⟩:=ho.il;obtain⟨fa,fc,hvf,ilf⟩:=hf.il;rw[XL]at hvo ilo;rw[YE]at hvf ilf;subst hvo;subst hvf;have ilo2:IL oa (idxI E) A.N w:=ilo.congr (fun i hi=>by simp[V4,List.getD_eq_getElem?_getD,hi]);clear ilo ho hf;obtain⟨c,hc⟩:∃c,c=cnt E A.N:=⟨_,rfl⟩;rw[<-hc]at ilf hcn ⊢;have Hc:Hid (c=cnt E A.N):=hc;clear hc;obtain⟨W,hW⟩:∃W,W=w.alloc (.cells #[.slice oa A.N oc,.slice fa c fc] 78):=⟨_,rfl⟩;have x0:Below w.heap.size w W:=by rw[hW];exact box_bel _ _
 have hT0:TC w.heap.size [.slice oa A.N oc,.slice fa c fc] W:=by rw[hW];exact TC.boxed _ _ _
 have HC:Hid (∀(s k:Nat) (w':World),s<A.N->k<A.K->Below W.heap.size W w'->Calls Tryz.prog 72 #[.pointer (some ⟨gb,0,none⟩),.slice oa A.N oc,.int .i64 s,.int .i64 k] w' fun e w''=>e=.returned (.int .i64 (gAt A (idxI E) s k))/\Below w'.heap.size w' w''):=fun s k w' hs hk h'=>RU gb A ta tc sv oa oc (idxI E) s k w' hA hr ((hG.below x0).below h') ((ilo2.below x0).below h') hs hk
 have HK:Hid (∀w',Below W.heap.size W w'->w'.cell? ⟨gb,0,none⟩=some (.int .i64 A.K)):=fun w' h'=>((hG.below x0).below h').c0
 have HT:Hid (∀w',Below W.heap.size W w'->w'.cell? ⟨w.heap.size,0,none⟩=some (.slice oa A.N oc)):=fun w' h'=>(hT0.below h' 0 _ rfl).1
 have HF:Hid (∀w',Below W.heap.size W w'->IL fa (fun i=>(YP E A.N).getD i 0) c w'):=fun w' h'=>(ilf.below x0).below h'
 have HX:=hyd x0;clear hG hA hr ilo2 ilf hT0 x0;go_enter Tryz.func45,Tryz.ntmps45;go_wp2_with fail;rw[<-hW];clear hW
 go_loopw [5,13] (fun v x w'=>∃s:Nat,s<=c/\x=.int .i64 s/\OwnL W.heap.size v (XO A.K (YT A E) (s*A.K)) w'/\Below W.heap.size W w') (fun _ x _=>c-(intOf x).toNat)
 case atStart=>exact⟨0,by omega,rfl,by rw[Nat.zero_mul];exact OwnL.nil _ _,Below.refl _ _⟩
 case round=>
  obtain⟨s,hs,rfl,hO,hB⟩:=hrel;by_cases hlt:s<c
  ·have hlt':(s:Int)<c:=by omega
   obtain⟨r,hr⟩:∃r,(reps E A.N)[s]?=some r:=⟨(reps E A.N)[s]'(by have:=Hc.out;unfold cnt at this;omega),List.getElem?_eq_getElem _⟩;have hrn:=(reps_mem hr).1;have hgd:(YP E A.N).getD s 0=(r:Int):=by simp[YP,List.getD_eq_getElem?_getD,hr]
   have Hrw:Hid (∀k,YT A E s k=gAt A (idxI E) r k):=fun k=>by unfold YT;rw[show(reps E A.N).getD s 0=r by simp[List.getD_eq_getElem?_getD,hr]]
   obtain⟨fb_,fo_,hfa,c2⟩:=HF.out wr hB s hlt;simp only[hgd]at c2;subst hfa;have hSK:s*A.K<=200*256:=Mw (by omega) hk2;clear hr hgd;go_wp2_with fail
   go_loopw [5,8] (fun v x w'=>∃k:Nat,k<=A.K/\x=.int .i64 k/\OwnL W.heap.size v (XO A.K (YT A E) (s*A.K+k)) w'/\Below W.heap.size W w') (fun _ x _=>A.K-(intOf x).toNat)
   case atStart=>exact⟨0,by omega,rfl,hO,hB⟩
   case round=>
    clear hO hB c2;obtain⟨k,hk,rfl,hO,hB⟩:=hrel;have c0:=HK.out wr hB;by_cases hkl:k<A.K
    ·have hkl':(k:Int)<(A.K:Int):=by omega
     have c1:=HT.out wr hB;go_wp2_with fail;refine(HC.out r k _ hrn hkl hB).mono ?_;rintro e w1 ⟨rfl,hW1⟩;have hB1:=hB.trans (hW1.mono hB.size);have hO1:=hO.below hW1;clear hO hB c0 c1 hW1;obtain⟨y,hy⟩:=nam (gAt A (idxI E) r k);rw[<-hy];have Hy:Hid (y=YT A E s k):=by show _=_;rw[hy,Hrw.out]
     clear hy;have hx:=box_bel w1 (.cells #[.int .i64 y] 3);have hO2:=hO1.below hx;have hB2:=hB1.trans (hx.mono hB1.size);have hge2:=hO2.blk;have hnw:(w1.alloc (.cells #[.int .i64 y] 3)).cell? ⟨w1.heap.size,0,none⟩=some (.int .i64 y):=by rw[World.cell?_alloc_new];rfl
     have hbs:=hB2.size;clear hx hO1 hB1;go_wp2_with (first|(at_builtin;refine wpList_append_int (by rfl) _ _ (by rfl) W.heap.size u5 (XO A.K (YT A E) (s*A.K+k)) (by rfl) hO2 (by rw[Q8];omega) w1.heap.size y (by rfl) hnw hbs _ rfl ?_;intro g cap w5 hO5 hgrow hgb hl5));have e1:XO A.K (YT A E) (s*A.K+k)++[y]=XO A.K (YT A E) (s*A.K+(k+1)):=by
      rw[<-Nat.add_assoc,NY,(Sp hkl).1,(Sp hkl).2,Hy.out]
     rw[e1]at hO5;go_roundw
     case rel=>exact⟨k+1,by omega,by go_num,hO5,hB2.grown hgrow hbs (fun q hq=>(hge2 q hq).1)⟩
     case measure=>simp[intOf];omega
    ·have hge:¬(k:Int)<(A.K:Int):=by omega
     have hkK:k=A.K:=by omega
     go_wp2_with fail;go_roundw
     case rel=>exact⟨s+1,by omega,by go_num,by rw[Nat.add_mul,Nat.one_mul];rw[hkK]at hO;exact hO,hB⟩
     case measure=>simp[intOf];omega
  ·have hge:¬(s:Int)<c:=by omega
   have hsc:s=c:=by omega
   go_wp2_with fail;go_ret;refine⟨u5,rfl,?_,HX.out.trans (hB.mono HX.out.size)⟩;rw[hsc]at hO;exact hO.mono HX.out.size
def Cl (rw:Nat->Nat->Int) (S:Nat) (a b:Nat):Bool:=(List.range S).all fun s=>rw s a==rw s b
theorem UC (rw:Nat->Nat->Int) (S a b:Nat):Cl rw S a b=true<->∀s,s<S->rw s a=rw s b:=by simp[Cl]
theorem Qm (rw:Nat->Nat->Int) (S n:Nat):Eqv (Cl rw S) n:=
 ⟨fun a _=>(UC rw S a a).2 (fun _ _=>rfl),fun a b _ _ h=>(UC rw S b a).2 (fun s hs=>((UC rw S a b).1 h s hs).symm),fun a b c _ _ _ h k=>(UC rw S a c).2 (fun s hs=>((UC rw S a b).1 h s hs).trans ((UC rw S b c).1 k s hs))⟩
theorem Rc (ra:Option Addr) (rc K S:Nat) (rw:Nat->Nat->Int) (a b:Nat) (w:World) (hK:K<=256) (hS:S<=200) (ha:a<K) (hb:b<K) (hR:IL ra (fun i=>(XO K rw (S*K)).getD i 0) (S*K) w):
  Calls Tryz.prog 73 #[.slice ra (S*K) rc,.int .i64 K,.int .i64 a,.int .i64 b] w fun e w'=>e=.returned (.bool (Cl rw S a b))/\Below w.heap.size w w':=by
 obtain⟨R,hRR⟩:=nam (Cl rw S a b);rw[<-hRR];have HR:Hid (R=true<->∀s,s<S->rw s a=rw s b):=by rw[hRR];exact UC rw S a b
 clear hRR;have hSK:=Mw hS hK;obtain⟨M,hM⟩:=nam (S*K);have HI:Hid (∀(w':World),Below w.heap.size w w'->∀s k,s<S->k<K->∃b off,ra=some ⟨b,off,none⟩/\w'.cell? ⟨b,off+(s*K+k),none⟩=some (.int .i64 (rw s k))):=fun w' h' s k hs hk=>by
  have hl:s*K+k<S*K:=by
   have:(s+1)*K<=S*K:=Nat.mul_le_mul_right _ hs;rw[Nat.add_mul]at this;omega
  obtain⟨b,off,e,hc⟩:=(hR.below h') (s*K+k) hl;simp only[MJ hs hk]at hc;exact⟨b,off,e,hc⟩
 have HM:=hyd hM;rw[<-hM]at hSK ⊢;clear hM hR;go_enter Tryz.func73,Tryz.ntmps73;go_wp2_with fail
 go_loopw [9] (fun x w'=>∃s p:Nat,s<=S/\x=.int .i64 p/\Hid (p=s*K)/\p<=M/\Below w.heap.size w w'/\Hid (∀j,j<s->rw j a=rw j b)) (fun x _=>M-(intOf x).toNat)
 case atStart=>exact⟨0,0,by omega,rfl,by show _=_;simp,by omega,Below.refl _ _,fun j hj=>by omega⟩
 case round=>
  obtain⟨s,p,hs,rfl,Hp,hpM,hW,HJ⟩:=hrel;by_cases hlt:s<S
  ·have hsm:s*K+K<=S*K:=by
    have:(s+1)*K<=S*K:=Nat.mul_le_mul_right _ hlt;rw[Nat.add_mul]at this;omega
   have hlt':(p:Int)<M:=by have:=Hp.out;have:=HM.out;omega
   obtain⟨q1,hq1⟩:=nam (p+a);obtain⟨q2,hq2⟩:=nam (p+b);obtain⟨q3,hq3⟩:=nam (p+K);have i1:(p:Int)+(a:Int)=(q1:Int):=by omega
   have i2:(p:Int)+(b:Int)=(q2:Int):=by omega
   have i3:(p:Int)+(K:Int)=(q3:Int):=by omega
   have l1:(q1:Int)<M:=by have:=Hp.out;have:=HM.out;omega
   have l2:(q2:Int)<M:=by have:=Hp.out;have:=HM.out;omega
   have l3:q3<=M:=by have:=Hp.out;have:=HM.out;omega
   have l4:p<q3:=by omega
   obtain⟨g1,o1,hra,c1⟩:=HI.out wr hW s a hlt ha;obtain⟨g2,o2,hra2,c2⟩:=HI.out wr hW s b hlt hb;have Hq3:Hid (q3=(s+1)*K):=by show _=_;rw[Nat.add_mul,hq3,Hp.out];omega
   rw[<-Hp.out,<-hq1]at c1;rw[<-Hp.out,<-hq2]at c2;rw[hra]at hra2;cases hra2;subst hra;clear hq1 hq2 hq3 hsm;by_cases he:rw s a=rw s b
   ·have e1:(rw s a==rw s b)=true:=by simpa using he
    have e2:(rw s a != rw s b)=false:=by simp[he]
    have HJ2:Hid (∀j,j<s+1->rw j a=rw j b):=fun j hj=>by
     by_cases ej:j=s
     ·subst ej;exact he
     ·exact HJ.out j (by omega)
    clear he HJ;go_wp2_with fail
    go_quiet (fail)
    go_wp2_with fail;go_roundw
    case rel=>exact⟨s+1,q3,by omega,by go_num,Hq3,l3,hW.trans (Vk _ _ _),HJ2⟩
    case measure=>simp[intOf];omega
   ·have e1:(rw s a==rw s b)=false:=by simpa using he
    have e2:(rw s a != rw s b)=true:=by simp[he]
    have HR1:Hid (R=false):=by
     show _=_;cases hR:R
     ·rfl
     ·exact absurd (HR.out.1 hR s hlt) he
    clear he HJ;go_wp2_with fail
    go_quiet (fail)
    go_wp2_with fail;go_ret;exact⟨Yx HR1.out.symm,hW.trans (Vk _ _ _)⟩
  ·have hge:¬(p:Int)<M:=by
    have e1:=Hp.out;have e2:=HM.out;have e3:s=S:=by omega
    rw[e3,<-e2]at e1;omega
   have HR1:=hyd (HR.out.2 (fun j hj=>HJ.out j (by omega)));go_wp2_with fail;go_ret;exact⟨Yx HR1.out.symm,hW⟩
structure CN (w:World) (vo vf:Value) (lo lf:List Int) (W:World):Prop where
 o:OwnL w.heap.size vo lo W
 f:OwnL w.heap.size vf lf W
 ne:∀k,vo.ownBlock=some k->vf.ownBlock≠some k
 b:Below w.heap.size w W
theorem CN.below (h:CN w vo vf lo lf W) (hW:Below W.heap.size W W'):CN w vo vf lo lf W':=
 ⟨h.o.below hW,h.f.below hW,h.ne,h.b.trans (hW.mono h.b.size)⟩
theorem CN.putF {w:World}{vo vf:Value}{lo lf lf':List Int}{W W1 w5:World}{n g cap:Nat}{ob:Obj} (h:CN w vo vf lo lf W) (hW1:W1=W.alloc ob)
  (h5:OwnL w.heap.size (.slice (some ⟨g,0,none⟩) n cap) lf' w5) (hg:W1.grownBy w5 vf.ownBlock) (hgb:vf.ownBlock=some g\/g=W1.heap.size):CN w vo (.slice (some ⟨g,0,none⟩) n cap) lo lf' w5:=by
 have x1:Below W.heap.size W W1:=by rw[hW1];exact box_bel _ _
 have hz1:W1.heap.size=W.heap.size+1:=by rw[hW1];simp
 have k1:=h.below x1;have hfb:=h.f.blk;refine⟨k1.o.grown hg (fun k hk e=>h.ne k hk e),h5,?_,k1.b.grown hg k1.b.size (fun q hq=>(hfb q hq).1)⟩;intro k hk e;have e2:g=k:=Option.some.inj e;have hk2:=h.o.blk k hk;rcases hgb with h1|h1
 ·rw[e2]at h1;exact h.ne k hk h1
 ·omega
theorem CN.putO {w:World}{vo vf:Value}{lo lf lo':List Int}{W W1 w5:World}{n g cap:Nat}{ob:Obj} (h:CN w vo vf lo lf W) (hW1:W1=W.alloc ob)
  (h5:OwnL w.heap.size (.slice (some ⟨g,0,none⟩) n cap) lo' w5) (hg:W1.grownBy w5 vo.ownBlock) (hgb:vo.ownBlock=some g\/g=W1.heap.size):CN w (.slice (some ⟨g,0,none⟩) n cap) vf lo' lf w5:=by
 have x1:Below W.heap.size W W1:=by rw[hW1];exact box_bel _ _
 have hz1:W1.heap.size=W.heap.size+1:=by rw[hW1];simp
 have k1:=h.below x1;have hfb:=h.o.blk;refine⟨h5,k1.f.grown hg (fun k hk e=>h.ne k e hk),?_,k1.b.grown hg k1.b.size (fun q hq=>(hfb q hq).1)⟩;intro k hk e;have e2:g=k:=Option.some.inj hk;have hk2:=h.f.blk k e;rcases hgb with h1|h1
 ·rw[e2]at h1;exact h.ne k h1 e
 ·omega
def J0 (E:Nat->Nat->Bool) (n:Nat) (w:World) (e:Ending) (w':World):Prop:=
 ∃vo vf,e=.returned (.tuple #[vo,vf])/\OwnL w.heap.size vo (V4 E n) w'/\OwnL w.heap.size vf (YP E n) w'/\Below w.heap.size w w'
theorem PL (ra:Option Addr) (rc K S:Nat) (rw:Nat->Nat->Int) (w:World) (hK:K<=256) (hS:S<=200) (hR:IL ra (fun i=>(XO K rw (S*K)).getD i 0) (S*K) w):
  Calls Tryz.prog 46 #[.slice ra (S*K) rc,.int .i64 K] w (J0 (Cl rw S) K w):=by
 have HC:Hid (∀(a b:Nat) (w':World),a<K->b<K->Below w.heap.size w w'->Calls Tryz.prog 73 #[.slice ra (S*K) rc,.int .i64 K,.int .i64 a,.int .i64 b] w' fun e w''=>e=.returned (.bool (Cl rw S a b))/\Below w'.heap.size w' w''):=fun a b w' ha hb h'=>Rc ra rc K S rw a b w' hK hS ha hb (hR.below h')
 have HE:=hyd (Qm rw S K);obtain⟨M,hM⟩:=nam (S*K);rw[<-hM]at HC ⊢;clear hR hM;generalize Cl rw S=E at *;go_enter Tryz.func46,Tryz.ntmps46;go_wp2_with fail
 go_loopw [6,7,8] (fun vo vf x w'=>∃a:Nat,a<=K/\x=.int .i64 a/\CN w vo vf (V4 E a) (YP E a) w') (fun _ _ x _=>K-(intOf x).toNat)
 case atStart=>exact⟨0,by omega,rfl,OwnL.nil _ _,OwnL.nil _ _,fun k hk=>(by cases hk),Below.refl _ _⟩
 case round=>
  obtain⟨a,ha,rfl,S1⟩:=hrel;by_cases hlt:a<K
  ·have hlt':(a:Int)<K:=by omega
   obtain⟨fa,fc,hvf,_⟩:=S1.f.il;obtain⟨va,vc,hvo,_⟩:=S1.o.il;subst hvf;subst hvo;rw[YE]at S1;rw[XL]at S1;have hnew:=rep_new HE.out hlt;have hcl:=cnt_le E a;obtain⟨id,hid⟩:=nam (idx E a);rw[<-hid]at hnew;have Hid1:=hyd hid;clear hid;rw[YE,XL];obtain⟨c,hc⟩:=nam (cnt E a);have Hc:=hyd hc;rw[<-hc]at hnew hcl S1 ⊢;clear hc;have HNew:=hyd hnew.1;have hidc:=hnew.2;clear hnew;go_wp2_with fail
   go_loopw [9] (fun x w'=>∃j:Nat,j<=id/\x=.int .i64 j/\CN w (.slice va a vc) (.slice fa c fc) (V4 E a) (YP E a) w') (fun x _=>c-(intOf x).toNat)
   case atStart=>exact⟨0,by omega,rfl,S1⟩
   case round=>
    clear S1;obtain⟨j,hj,rfl,S1⟩:=hrel;by_cases hjc:j<c
    ·have hjc':(j:Int)<c:=by omega
     obtain⟨r,hr⟩:∃r,(reps E a)[j]?=some r:=⟨(reps E a)[j]'(by have:=Hc.out;unfold cnt at this;omega),List.getElem?_eq_getElem _⟩;have hrm:=reps_mem hr;have hlk:=rep_like HE.out hlt hr;rw[<-Hid1.out]at hlk;obtain⟨ad2,cap2,hv2,il2⟩:=S1.f.il;have hv3:=(Value.slice.inj hv2).1;rw[<-hv3]at il2;obtain⟨fb_,fo_,hfa,c2⟩:=il2 j (by rw[YE,<-Hc.out];exact hjc);subst hfa;have hgd:(YP E a).getD j 0=(r:Int):=by simp[YP,List.getD_eq_getElem?_getD,hr]
     simp only[hgd]at c2;have HCr1:=hyd (HC.out r a wr (by omega) hlt S1.b);have Hlk:=hyd hlk;clear hlk hr hrm hv2 il2 hgd hv3;go_wp2_with fail;refine HCr1.out.mono ?_;rintro e w2 ⟨rfl,hW2⟩;have S2:=S1.below hW2;clear S1 c2 HCr1 hW2;cases hE:E r a
     ·have hne:j≠id:=fun e=>by have:=Hlk.out.2 e;rw[hE]at this;cases this
      go_wp2_with fail;go_roundw
      case rel=>exact⟨j+1,by omega,by go_num,S2⟩
      case measure=>simp[intOf];omega
     ·have hji:=Hlk.out.1 hE;subst hji;have hold:least E a≠a:=fun e=>by have:=HNew.out.2 e;omega
      have q1:((j:Int)==(c:Int))=false:=by simp;omega
      have hx:=box_bel w2 (.cells #[.int .i64 (j:Int)] 3);have hO1:=S2.o.below hx;have hnw:(w2.alloc (.cells #[.int .i64 (j:Int)] 3)).cell? ⟨w2.heap.size,0,none⟩=some (.int .i64 (j:Int)):=by rw[World.cell?_alloc_new];rfl
      have hbs:=Nat.le_trans S2.b.size hx.size;have HS2:=hyd S2;have Hold:=hyd hold;clear S2 hx hold;go_wp2_with (first|(at_builtin;refine wpList_append_int (by rfl) _ _ (by rfl) w.heap.size (.slice va a vc) (V4 E a) (by rfl) hO1 (by rw[XL];omega) w2.heap.size (j:Int) (by rfl) hnw hbs _ rfl ?_;intro g cap w5 hO5 hgrow hgb hl5));have S3:=HS2.out.putO rfl hO5 hgrow hgb;have e1:V4 E a++[(j:Int)]=V4 E (a+1):=by rw[Tf];unfold idxI;rw[<-Hid1.out]
      have e2:YP E (a+1)=YP E a:=by rw[VJ,if_neg Hold.out,List.append_nil]
      rw[e1,<-e2]at S3;go_roundw
      case rel=>exact⟨a+1,by omega,by go_num,S3⟩
      case measure=>simp[intOf];omega
    ·have hjc2:c=j:=by omega
     have hic:id=c:=by omega
     have hnw2:=HNew.out.1 hic;have HIc:=hyd hic;clear hic hj hidc HNew;subst hjc2;have hge:¬(c:Int)<c:=by omega
     have q1:((c:Int)==(c:Int))=true:=by simp
     have hx:=box_bel wr (.cells #[.int .i64 (a:Int)] 3);have hO1:=S1.f.below hx;have hnw:(wr.alloc (.cells #[.int .i64 (a:Int)] 3)).cell? ⟨wr.heap.size,0,none⟩=some (.int .i64 (a:Int)):=by rw[World.cell?_alloc_new];rfl
     have hbs:=Nat.le_trans S1.b.size hx.size;have HS2:=hyd S1;have Hold:=hyd hnw2;have hfl:=YE E a;rw[<-Hc.out]at hfl;have Hfl:=hyd hfl;have HX:Hid (∀g cap w5,OwnL w.heap.size (.slice (some ⟨g,0,none⟩) (c+1) cap) (YP E a++[(a:Int)]) w5->(wr.alloc (.cells #[.int .i64 (a:Int)] 3)).grownBy w5 (Value.slice fa c fc).ownBlock->((Value.slice fa c fc).ownBlock=some g\/g=(wr.alloc (.cells #[.int .i64 (a:Int)] 3)).heap.size) ->
       CN w (.slice va a vc) (.slice (some ⟨g,0,none⟩) (c+1) cap) (V4 E a) (YP E a++[(a:Int)]) w5):=fun g cap w5 h1 h2 h3=>HS2.out.putF rfl h1 h2 h3
     have HK2:Hid (∀(v:Value) (w5:World),CN w (.slice va a vc) v (V4 E a) (YP E a++[(a:Int)]) w5 ->
       OwnL w.heap.size (.slice va a vc) (V4 E a) (w5.alloc (.cells #[.int .i64 (c:Int)] 3))/\(w5.alloc (.cells #[.int .i64 (c:Int)] 3)).cell? ⟨w5.heap.size,0,none⟩=some (.int .i64 (c:Int))/\w.heap.size<=(w5.alloc (.cells #[.int .i64 (c:Int)] 3)).heap.size):=fun v w5 hF=>by
      have hx:=box_bel w5 (.cells #[.int .i64 (c:Int)] 3);exact⟨hF.o.below hx,by rw[World.cell?_alloc_new];rfl,Nat.le_trans hF.b.size hx.size⟩
     clear S1 hx hnw2 hfl;go_wp2_with (first|(at_builtin;refine wpList_append_int (by rfl) _ _ (by rfl) w.heap.size (.slice fa c fc) (YP E a) (by rfl) hO1 (by rw[Hfl.out];omega) wr.heap.size (a:Int) (by rfl) hnw hbs _ rfl ?_;rw[Hfl.out];intro g cap w5 hO5 hgrow hgb hl5;have S5:=HX.out g cap w5 hO5 hgrow hgb;obtain⟨hO6,hn6,hb6⟩:=HK2.out _ w5 S5)|(at_builtin;refine wpList_append_int (by rfl) _ _ (by rfl) w.heap.size (.slice va a vc) (V4 E a) (by rfl) hO6 (by rw[XL];omega) w5.heap.size (c:Int) (by rfl) hn6 hb6 _ rfl ?_;intro g2 cap2 w7 hO7 hgrow7 hgb7 hl7));have S7:=S5.putO rfl hO7 hgrow7 hgb7;have e1:V4 E a++[(c:Int)]=V4 E (a+1):=by rw[Tf];unfold idxI;rw[<-Hid1.out,HIc.out]
     have e2:YP E a++[(a:Int)]=YP E (a+1):=by rw[VJ,if_pos Hold.out]
     rw[e1,e2]at S7;go_roundw
     case rel=>exact⟨a+1,by omega,by go_num,S7⟩
     case measure=>simp[intOf];omega
  ·have hge:¬(a:Int)<K:=by omega
   have haN:a=K:=by omega
   subst haN;go_wp2_with fail;go_ret2;exact⟨u6,u7,rfl,S1.o,S1.f,S1.b⟩
def HS (ha:Option Addr) (hs:Nat->Nat->Bool) (P:Nat) (w:World):Prop:=∀p b,p<P->b<256->∃blk off,ha=some ⟨blk,off,none⟩/\w.cell? ⟨blk,off+p*256+b,none⟩=some (.bool (hs p b))
theorem HS.below {P:Nat} (h:HS ha hs P w) (hW:Below w.heap.size w w'):HS ha hs P w':=fun p b hp hb=>by
 obtain⟨blk,off,e,hc⟩:=h p b hp hb;refine⟨blk,off,e,?_⟩;rw[hW.cell (p:=⟨blk,off+p*256+b,none⟩) (World.block_lt_of_cell? w _ hc)];exact hc
def Kq (hs:Nat->Nat->Bool) (P:Nat) (a b:Nat):Bool:=(List.range P).all fun p=>hs p a==hs p b
theorem U0 (hs:Nat->Nat->Bool) (P a b:Nat):Kq hs P a b=true<->∀p,p<P->hs p a=hs p b:=by simp[Kq]
theorem TD (hs:Nat->Nat->Bool) (P n:Nat):Eqv (Kq hs P) n:=
 ⟨fun a _=>(U0 hs P a a).2 (fun _ _=>rfl),fun a b _ _ h=>(U0 hs P b a).2 (fun s hq=>((U0 hs P a b).1 h s hq).symm),fun a b c _ _ _ h k=>(U0 hs P a c).2 (fun s hq=>((U0 hs P a b).1 h s hq).trans ((U0 hs P b c).1 k s hq))⟩
theorem Qh (nb:Nat) (ha:Option Addr) (hc P:Nat) (hs:Nat->Nat->Bool) (a b:Nat) (w:World) (hP:P<=96) (hc0:w.cell? ⟨nb,0,none⟩=some (.slice ha P hc)) (hH:HS ha hs P w) (h1:a<256) (h2:b<256):
  Calls Tryz.prog 40 #[.pointer (some ⟨nb,0,none⟩),.int .u8 a,.int .u8 b] w fun e w'=>e=.returned (.bool (!Kq hs P a b))/\Below w.heap.size w w':=by
 obtain⟨R,hR⟩:=nam (!Kq hs P a b);rw[<-hR];have HR:Hid (R=false<->∀p,p<P->hs p a=hs p b):=by
  show _<->_;rw[hR];have:=U0 hs P a b;simpa using this
 clear hR;have HC:Hid (∀w',Below w.heap.size w w'->w'.cell? ⟨nb,0,none⟩=some (.slice ha P hc)):=fun w' h'=>by
  rw[h'.cell (p:=⟨nb,0,none⟩) (World.block_lt_of_cell? w _ hc0)];exact hc0
 have HH:Hid (∀w',Below w.heap.size w w'->HS ha hs P w'):=fun w' h'=>hH.below h'
 have h1':(a:Int)<256:=by omega
 have h2':(b:Int)<256:=by omega
 clear hH hc0;go_enter Tryz.func40,Tryz.ntmps40;go_wp2_with fail
 go_loopw [7] (fun x w'=>∃p:Nat,p<=P/\x=.int .i64 p/\Below w.heap.size w w'/\Hid (∀j,j<p->hs j a=hs j b)) (fun x _=>P-(intOf x).toNat)
 case atStart=>exact⟨0,by omega,rfl,Below.refl _ _,fun j hj=>by omega⟩
 case round=>
  obtain⟨p,hp,rfl,hW,HJ⟩:=hrel;have c0:=HC.out wr hW;by_cases hlt:p<P
  ·have hlt':(p:Int)<P:=by omega
   obtain⟨g1,o1,e1,k1⟩:=HH.out wr hW p a hlt h1;obtain⟨g2,o2,e2,k2⟩:=HH.out wr hW p b hlt h2;rw[e1]at e2;cases e2;subst e1;obtain⟨x,hx⟩:=nam (hs p a);obtain⟨y,hy⟩:=nam (hs p b);rw[<-hx]at k1;rw[<-hy]at k2;by_cases he:x=y
   ·have HJ2:Hid (∀j,j<p+1->hs j a=hs j b):=fun j hj=>by
     by_cases ej:j=p
     ·subst ej;rw[<-hx,<-hy];exact he
     ·exact HJ.out j (by omega)
    subst he;clear HJ hx hy;go_wp2_with fail
    go_quiet (fail)
    have q1:(x==x)=true:=by simp
    go_wp2_with fail;go_roundw
    case rel=>exact⟨p+1,by omega,by go_num,hW.trans (Vk _ _ _),HJ2⟩
    case measure=>simp[intOf];omega
   ·have HR1:Hid (R=true):=by
     show _=_;cases hR:R
     ·exact absurd (by rw[hx,hy];exact HR.out.1 hR p hlt) he
     ·rfl
    have q1:(x==y)=false:=by simpa using he
    clear HJ hx hy he;go_wp2_with fail
    go_quiet (fail)
    go_wp2_with fail;go_ret;exact⟨Yx HR1.out.symm,hW.trans (Vk _ _ _)⟩
  ·have hge:¬(p:Int)<P:=by omega
   have HR1:=hyd (HR.out.2 (fun j hj=>HJ.out j (by omega)));go_wp2_with fail;go_ret;exact⟨Yx HR1.out.symm,hW⟩
def Fy (l:List Nat):List Value:=l.map fun(x:Nat)=>.int .u8 (x:Int)
def WF (base:Nat) (v:Value) (l:List Nat) (w:World):Prop:=w.ownsRow base 5 1 v l.length (Fy l)
theorem WF.nil (base:Nat) (w:World):WF base (.slice none 0 0) [] w:=⟨rfl,Or.inl ⟨rfl,rfl⟩⟩
theorem WF.blk {l:List Nat} (h:WF base v l w):∀k,v.ownBlock=some k->base<=k/\k<w.heap.size:=fun k hk=>h.lt k hk
theorem WF.keep {l:List Nat} (h:WF base v l w) (hk:∀k,v.ownBlock=some k->w'.heap[k]?=w.heap[k]?):WF base v l w':=by
 refine⟨h.1,?_⟩;rcases h.2 with h0|⟨g,cap,cur,rfl,h1,h2,h3⟩
 ·exact Or.inl h0
 ·exact Or.inr ⟨g,cap,cur,rfl,h1,by rw[hk g rfl];exact h2,h3⟩
theorem WF.below {l:List Nat} (h:WF base v l w) (hW:Below w.heap.size w w'):WF base v l w':=h.keep (fun k hk=>hW.block k (h.blk k hk).2)
theorem WF.mono {l:List Nat} (h:WF base v l w) (hb:base'<=base):WF base' v l w:=
 ⟨h.1,h.2.imp id (fun⟨g,cap,cur,a,b,c⟩=>⟨g,cap,cur,a,Nat.le_trans hb b,c⟩)⟩
theorem WF.grown {l:List Nat} (h:WF base v l w) (hg:w.grownBy w' row) (hne:∀k,v.ownBlock=some k->row≠some k):WF base v l w':=
 h.keep (fun k hk=>hg.block k (h.blk k hk).2 (fun e=>hne k hk e.symm))
theorem WF.at_ {l:List Nat} (h:WF base v l w):∃ad cap,v=.slice ad l.length cap/\∀(i x:Nat),l[i]?=some x->∃g,ad=some ⟨g,0,none⟩/\w.cell? ⟨g,i,none⟩=some (.int .u8 (x:Int)):=by
 rcases h.2 with ⟨rfl,h0⟩|⟨g,cap,cur,rfl,h1,h2,h3,h4,h5,h6⟩
 ·refine⟨none,0,by rw[h0],fun i x hi=>?_⟩;have hl:=(List.getElem?_eq_some_iff.1 hi).1;omega
 ·refine⟨some ⟨g,0,none⟩,cap,rfl,fun i x hi=>⟨g,rfl,?_⟩⟩;have hx:=h.cells (g:=g) rfl i (.int .u8 (x:Int)) (by simp[Fy,hi]);rw[Addr.add_lit,Nat.zero_add]at hx;exact hx
theorem SC (hgd:o.guard=none) (s x:Operand)
  (ho:o.op=.call { callee:=.builtin .append,args:=#[s,x],argTypes:=#[68,68] }) (base:Nat)
  (v:Value) (l:List Nat) (hs:a.eval s=v) (hown:WF base v l w) (hn:l.length<=1000000)
  (B:Nat) (t:Nat) (hx:a.eval x=.slice (some ⟨B,0,none⟩) 1 1) (hnews:w.cell? ⟨B,0,none⟩=some (.int .u8 (t:Int))) (hbase:base<=w.heap.size) (H:Nat) (hH:w.heap.size=H)
  (h:∀g cap w',WF base (.slice (some ⟨g,0,none⟩) (l.length+1) cap) (l++[t]) w'->w.grownBy w' v.ownBlock->(v.ownBlock=some g\/g=H)->g<w'.heap.size->wpList Tryz.prog ops Q rest (a.put o.dst (.slice (some ⟨g,0,none⟩) (l.length+1) cap)) w'):wpList Tryz.prog ops Q (o::rest) a w:=by
 obtain⟨i,hi,hz0,hz1,hz2⟩:=Ls;refine wpList_append_lies w hgd s x 68 ho base 5 i (.int .u8 0) 1 1 u_h hi hz0 hz1 hz2 rfl (by omega) v l.length (Fy l) hs hown ⟨B,0,none⟩ 1 1 [.int .u8 (t:Int)] hx rfl (fun j u hu=>?_) (by simp[Value.oneCell']) (by omega) (by unfold maxLen;omega) (by omega) hbase H hH ?_
 ·rw[Addr.add_lit,Nat.zero_add];cases j with
  |zero=>simp at hu;subst hu;exact hnews
  |succ j=>simp at hu
 ·intro g cap w' h1 h2 h3 h4;refine h g cap w' ?_ h2 h3 h4;unfold WF;rw[List.length_append];simp only[Fy,List.map_append];exact h1
def Ys (f:Nat->Int) (v:Value):List Value:=(List.range 256).map (fun i=>.int .i64 (f i))++[v]
theorem XK (f:Nat->Int) (v:Value):(Ys f v).length=257:=by simp[Ys]
theorem WK (f:Nat->Int) (v:Value) (i:Nat) (h:i<256):(Ys f v)[i]?=some (.int .i64 (f i)):=by
 unfold Ys;rw[List.getElem?_append_left (by simpa using h)];simp[h]
theorem Xl (f:Nat->Int) (v:Value):(Ys f v)[256]?=some v:=by
 unfold Ys;rw[List.getElem?_append_right (by simp)];simp
theorem Rp (w:World):(zeroValue 70).run Tryz.prog w=.ok (.agg (Ys (fun _=>0) (.slice none 0 0)).toArray) w:=by kernel_rfl
theorem Vb:(Tryz.prog.info? 70).map (·.size)=some 257:=by kernel_rfl
structure KN (w:World) (f:Nat->Int) (vl:Value) (l:List Nat) (W:World):Prop where
 z:TC w.heap.size (Ys (fun _=>0) (.slice none 0 0)) W
 s:TC (w.heap.size+1) (Ys f vl) W
 l:WF (w.heap.size+2) vl l W
 b:Below w.heap.size w W
theorem Bm.TC.ltK (h:TC t (Ys f v) w):t<w.heap.size:=World.block_lt_of_cell? w _ (h 0 _ (WK f v 0 (by omega))).1
theorem Bm.TC.belowK (h:TC t (Ys f v) w) (hW:Below w.heap.size w w'):TC t (Ys f v) w':=h.block (hW.block t h.ltK)
theorem KN.size {l:List Nat} (h:KN w f vl l W):w.heap.size+2<=W.heap.size:=by have:=h.s.ltK;omega
theorem KN.below {l:List Nat} (h:KN w f vl l W) (hW:Below W.heap.size W W'):KN w f vl l W':=
 ⟨h.z.belowK hW,h.s.belowK hW,h.l.below hW,h.b.trans (hW.mono h.b.size)⟩
theorem Mm (f:Nat->Int) (v:Value) (i:Nat) (x:Int) (h:i<256):(Ys f v).set i (.int .i64 x)=Ys (fun j=>if j=i then x else f j) v:=by
 refine List.ext_getElem? (fun j=>?_);by_cases e:j=i
 ·subst e;rw[List.getElem?_set_self (by rw[XK];omega),WK _ _ _ h];simp
 ·rw[List.getElem?_set_ne (fun h=>e h.symm)];rcases Nat.lt_or_ge j 256 with hj|hj
  ·rw[WK _ _ _ hj,WK _ _ _ hj];simp[e]
  ·by_cases hj2:j=256
   ·subst hj2;rw[Xl,Xl]
   ·rw[List.getElem?_eq_none (by rw[XK];omega),List.getElem?_eq_none (by rw[XK];omega)]
theorem Nt (f:Nat->Int) (v u:Value):(Ys f v).set 256 u=Ys f u:=by
 unfold Ys;rw[List.set_append_right _ _ (by simp)];simp
theorem KN.put {l:List Nat} (h:KN w f vl l W) (i:Nat) (hi:i<256) (x:Int):KN w (fun j=>if j=i then x else f j) vl l (W.setCell ⟨w.heap.size+1,i,none⟩ (.int .i64 x)):=by
 have hb:∀k,k≠w.heap.size+1->(W.setCell ⟨w.heap.size+1,i,none⟩ (.int .i64 x)).heap[k]?=W.heap[k]?:=fun k hk=>Below.heap_setCell W ⟨w.heap.size+1,i,none⟩ _ k (fun e=>hk e)
 refine⟨h.z.block (hb _ (by omega)),?_,h.l.keep (fun k hk=>hb k (by have:=(h.l.blk k hk).1;omega)),h.b.setCell (p:=⟨w.heap.size+1,i,none⟩) (Nat.le_succ _) _⟩;rw[<-Mm f vl i x hi];exact h.s.set i (by rw[XK];omega) _
theorem KN.putL {l l':List Nat} (h:KN w f vl l W) (hW1:W1=W.alloc ob)
  (h5:WF (w.heap.size+2) (.slice (some ⟨g,0,none⟩) n cap) l' w5) (hg:W1.grownBy w5 vl.ownBlock):
  KN w f (.slice (some ⟨g,0,none⟩) n cap) l' (w5.setCell ⟨w.heap.size+1,256,none⟩ (.slice (some ⟨g,0,none⟩) n cap)):=by
 have hs:=h.size;have x1:Below W.heap.size W W1:=by rw[hW1];exact box_bel _ _
 have hz1:W1.heap.size=W.heap.size+1:=by rw[hW1];simp
 have k1:=h.below x1;have hb:∀k,k≠w.heap.size+1->(w5.setCell ⟨w.heap.size+1,256,none⟩ (.slice (some ⟨g,0,none⟩) n cap)).heap[k]?=w5.heap[k]?:=fun k hk=>Below.heap_setCell w5 ⟨w.heap.size+1,256,none⟩ _ k (fun e=>hk e)
 have hfb:=h.l.blk;have hg2:=(h5.blk g rfl).1;refine⟨?_,?_,?_,?_⟩
 ·refine(k1.z.block (hg.block _ (by omega) (fun e=>?_))).block (hb _ (by omega));have:=(hfb _ e.symm).1;omega
 ·rw[<-Nt f vl];exact(k1.s.block (hg.block _ (by omega) (fun e=>by have:=(hfb _ e.symm).1;omega))).set 256 (by rw[XK];omega) _
 ·exact h5.keep (fun k hk=>hb k (by cases hk;show g≠_;omega))
 ·exact(k1.b.grown hg (by omega) (fun q hq=>by have:=(hfb q hq).1;omega)).setCell (p:=⟨w.heap.size+1,256,none⟩) (Nat.le_succ _) _
def MX (E:Nat->Nat->Bool) (w:World) (e:Ending) (w':World):Prop:=
 ∃(f:Nat->Int) (vl:Value),e=.returned (.agg (Ys f vl).toArray)/\(∀b,b<256->f b=idxI E b)/\WF w.heap.size vl (reps E 256) w'/\Below w.heap.size w w'
theorem Nv (nb:Nat) (ha:Option Addr) (hc P:Nat) (hs:Nat->Nat->Bool) (w:World) (hP:P<=96) (hc0:w.cell? ⟨nb,0,none⟩=some (.slice ha P hc)) (hH:HS ha hs P w):
  Calls Tryz.prog 16 #[.pointer (some ⟨nb,0,none⟩)] w (MX (Kq hs P) w):=by
 have hz:=Rp;have HC:Hid (∀(a b:Nat) (w':World),a<256->b<256->Below w.heap.size w w'->Calls Tryz.prog 40 #[.pointer (some ⟨nb,0,none⟩),.int .u8 a,.int .u8 b] w' fun e w''=>e=.returned (.bool (!Kq hs P a b))/\Below w'.heap.size w' w''):=fun a b w' h1 h2 h'=>Qh nb ha hc P hs a b w' hP (by rw[h'.cell (p:=⟨nb,0,none⟩) (World.block_lt_of_cell? w _ hc0)];exact hc0) (hH.below h') h1 h2
 have HE:=hyd (TD hs P 256);clear hc0 hH hP;generalize Kq hs P=E at *;obtain⟨W,hW⟩:=nam ((w.alloc (.cells (Ys (fun _=>0) (.slice none 0 0)).toArray 70)).alloc (.cells (Ys (fun _=>0) (.slice none 0 0)).toArray 70));have S0:KN w (fun _=>0) (.slice none 0 0) [] W:=by
  have hs1:(w.alloc (.cells (Ys (fun _=>0) (.slice none 0 0)).toArray 70)).heap.size=w.heap.size+1:=by simp
  rw[hW];refine⟨(TC.boxed w (Ys (fun _=>0) (.slice none 0 0)) _).belowK (box_bel _ _),?_,WF.nil _ _,(box_bel w _).trans ((box_bel _ _).mono (by simp))⟩;rw[<-hs1];exact TC.boxed _ (Ys (fun _=>0) (.slice none 0 0)) _
 go_enter Tryz.func16,Tryz.ntmps16;go_wp2_with fail;rw[<-hW];clear hW
 go_loopw [4] (fun x w'=>∃(a:Nat) (f:Nat->Int) (vl:Value),a<=256/\x=.int .i64 a/\Hid (∀b,b<a->f b=idxI E b)/\KN w f vl (reps E a) w') (fun x _=>256-(intOf x).toNat)
 case atStart=>exact⟨0,_,_,by omega,rfl,fun b hb=>by omega,S0⟩
 case round=>
  clear S0;obtain⟨a,f,vl,ha,rfl,HF,S1⟩:=hrel;by_cases hlt:a<256
  ·have hlt':(a:Int)<256:=by omega
   obtain⟨va,vc,hvl,_⟩:=S1.l.at_;subst hvl;have hnew:=rep_new HE.out hlt;have hcl:=cnt_le E a;obtain⟨id,hid⟩:=nam (idx E a);rw[<-hid]at hnew;have Hid1:=hyd hid;clear hid;obtain⟨c,hc2⟩:=nam (cnt E a);have Hc:=hyd hc2;have hc3:(reps E a).length=c:=by rw[hc2];rfl
   rw[hc3]at S1;rw[<-hc2]at hnew hcl;have Hc3:=hyd hc3;clear hc2 hc3;have HNew:=hyd hnew.1;have hidc:=hnew.2;clear hnew;go_wp2_with fail
   go_loopw [6] (fun x w'=>∃j:Nat,j<=id/\x=.int .i64 j/\KN w f (.slice va c vc) (reps E a) w') (fun x _=>c-(intOf x).toNat)
   case atStart=>exact⟨0,by omega,rfl,S1⟩
   case round=>
    clear S1;obtain⟨j,hj,rfl,S1⟩:=hrel;have c1:=(S1.s 256 _ (Xl _ _)).1;by_cases hjc:j<c
    ·have hjc':(j:Int)<c:=by omega
     obtain⟨r,hr⟩:∃r,(reps E a)[j]?=some r:=⟨(reps E a)[j]'(by have:=Hc3.out;omega),List.getElem?_eq_getElem _⟩;have hrm:=reps_mem hr;have hlk:=rep_like HE.out hlt hr;rw[<-Hid1.out]at hlk;obtain⟨ad2,cap2,hv2,il2⟩:=S1.l.at_;have hv3:=(Value.slice.inj hv2).1;rw[<-hv3]at il2;obtain⟨fb_,hfa,c2⟩:=il2 j r hr;subst hfa;have HCr1:=hyd (HC.out r a wr (by omega) hlt S1.b);have Hlk:=hyd hlk;clear hlk hr hrm hv2 il2 hv3;go_wp2_with fail;refine HCr1.out.mono ?_;rintro e w2 ⟨rfl,hW2⟩;have S2:=S1.below hW2;clear S1 c1 c2 HCr1 hW2;cases hE:E r a
     ·have hne:j≠id:=fun e=>by have:=Hlk.out.2 e;rw[hE]at this;cases this
      go_wp2_with fail;go_roundw
      case rel=>exact⟨j+1,by omega,by go_num,S2⟩
      case measure=>simp[intOf];omega
     ·have hji:=Hlk.out.1 hE;subst hji;have hold:least E a≠a:=fun e=>by have:=HNew.out.2 e;omega
      have q1:((j:Int)==(c:Int))=false:=by simp;omega
      have c1:=(S2.s 256 _ (Xl _ _)).1;obtain⟨c5,c5f⟩:=S2.s a _ (WK _ _ _ hlt);have S3:=S2.put a hlt (j:Int);have e2:reps E (a+1)=reps E a:=by rw[reps_succ,if_neg hold,List.append_nil]
      rw[<-e2]at S3;have HF2:Hid (∀b,b<a+1->(if b=a then (j:Int) else f b)=idxI E b):=fun b hb=>by
       by_cases eb:b=a
       ·subst eb;simp[idxI,<-Hid1.out]
       ·simp[eb];exact HF.out b (by omega)
      have HS3:=hyd S3;clear S2 S3 hold e2;go_wp2_with fail;go_roundw
      case rel=>exact⟨a+1,_,_,by omega,by go_num,HF2,HS3.out⟩
      case measure=>simp[intOf];omega
    ·have hjc2:c=j:=by omega
     have hic:id=c:=by omega
     have hnw2:=HNew.out.1 hic;have HIc:=hyd hic;clear hic hj hidc HNew;subst hjc2;have hge:¬(c:Int)<c:=by omega
     have q1:((c:Int)==(c:Int))=true:=by simp
     have hx:=box_bel wr (.cells #[.int .u8 (a:Int)] 5);have hO1:=S1.l.below hx;have hnw:(wr.alloc (.cells #[.int .u8 (a:Int)] 5)).cell? ⟨wr.heap.size,0,none⟩=some (.int .u8 (a:Int)):=by rw[World.cell?_alloc_new];rfl
     have hbs:=Nat.le_trans S1.size hx.size;have HK:Hid (∀w5,(wr.alloc (.cells #[.int .u8 (a:Int)] 5)).grownBy w5 (Value.slice va c vc).ownBlock->TC (w.heap.size+1) (Ys f (.slice va c vc)) w5):=fun w5 hg=>
      (S1.s.belowK hx).block (hg.block _ (by have:=S1.size;have:=hx.size;omega) (fun e=>by have:=(S1.l.blk _ e.symm).1;omega))
     have HS2:=hyd S1;have Hold:=hyd hnw2;clear S1 hx hnw2;go_wp2_with (first|(at_builtin;refine SC (by rfl) _ _ (by rfl) (w.heap.size+2) (.slice va c vc) (reps E a) (by rfl) hO1 (by rw[Hc3.out];omega) wr.heap.size a (by rfl) hnw hbs _ rfl ?_;rw[Hc3.out];intro g cap w5 hO5 hgrow hgb hl5;obtain⟨c6,c6f⟩:=HK.out w5 hgrow 256 _ (Xl _ _);have S5:=HS2.out.putL rfl hO5 hgrow;obtain⟨c7,c7f⟩:=S5.s a _ (WK _ _ _ hlt)));have S6:=S5.put a hlt (c:Int);have e2:reps E a++[a]=reps E (a+1):=by rw[reps_succ,if_pos Hold.out]
     rw[e2]at S6;have HF2:Hid (∀b,b<a+1->(if b=a then (c:Int) else f b)=idxI E b):=fun b hb=>by
      by_cases eb:b=a
      ·subst eb;simp[idxI,<-Hid1.out,HIc.out]
      ·simp[eb];exact HF.out b (by omega)
     go_roundw
     case rel=>exact⟨a+1,_,_,by omega,by go_num,HF2,S6⟩
     case measure=>simp[intOf];omega
  ·have hge:¬(a:Int)<256:=by omega
   have haN:a=256:=by omega
   subst haN;have hrg:=S1.s.range;have hth:wr.there w.heap.size 0 257:=by have:=S1.z.there;rw[XK]at this;exact this
   obtain⟨L,hL⟩:=nam (Ys f vl);have hLl:L.length=257:=by rw[hL];exact XK _ _
   rw[<-hL]at hrg;have hG:=Y6 w.heap.size L 0 wr;have hr':=World.rangeAt_setCells_same wr w.heap.size 0 L (by rw[hLl];exact hth);have hfin:=run_loadVar_mid (P:=Tryz.prog) (wr.setCells w.heap.size 0 L) w.heap.size 0 70 L _ hr' Tryz.underlying70 rfl (by rw[hLl];exact Vb);obtain⟨W9,hW9⟩:=nam (wr.setCells w.heap.size 0 L);rw[<-hW9]at hG hfin;have HW9:=hyd hW9;have Hfin:=hyd hfin;have HO1:Hid (L.toArray.all (·.oneCell')=true):=by
    obtain⟨a1,c1,h1,_⟩:=S1.l.at_;show _=true;rw[hL,h1];simp[Ys,Value.oneCell']
   have HLl:=hyd hLl;have HL:=hyd hL;have HS1:=hyd S1;clear hW9 hr' hfin hL hLl S1;go_wp2_with (first|(refine wpList_load_mid rfl 70 _ rfl (w.heap.size+1) 0 rfl L _ hrg Tryz.underlying70 rfl (by rw[HLl.out];exact Vb) ?_)|(refine wpList_store_mid rfl 70 _ _ rfl w.heap.size 0 L.toArray rfl rfl (by simpa[HLl.out]using hth) (by simpa[HLl.out]using Vb) HO1.out ?_;rw[List.toList_toArray,<-HW9.out]));refine bodyPost_ret (v:=.agg L.toArray) (res_load1 Tryz.results16 rfl Hfin.out) rfl ?_;have S1:=HS1.out;refine⟨f,vl,by rw[HL.out],HF.out,(S1.l.grown hG (fun k hk e=>?_)).mono (by omega),S1.b.grown hG S1.b.size (fun q hq=>by cases hq;exact Nat.le_refl _)⟩;have:=(S1.l.blk k hk).1;have:=Option.some.inj e;omega
structure Mq (A Q:Aut):Prop where
 n:Q.N=cnt (alB A) A.N
 k:Q.K=cnt (Cl (YT A (alB A)) (cnt (alB A) A.N)) A.K
 t:∀s c,s<Q.N->c<Q.K->Q.to s c=YT A (alB A) s ((reps (Cl (YT A (alB A)) (cnt (alB A) A.N)) A.K).getD c 0)
 v:∀s,s<Q.N->Q.vd s=A.vd ((reps (alB A) A.N).getD s 0)
theorem JE {s:Nat} (h:s<cnt E n):(reps E n)[s]?=some ((reps E n).getD s 0):=by
 have h':=h;rw[List.getD_eq_getElem?_getD,List.getElem?_eq_getElem h'];rfl
theorem Vs {s:Nat} (h:s<cnt E n):(reps E n).getD s 0<n/\least E ((reps E n).getD s 0)=(reps E n).getD s 0/\cnt E ((reps E n).getD s 0)=s:=reps_mem (JE h)
theorem Tl {a:Nat} (hE:Eqv E n) (ha:a<n):(reps E n).getD (idx E a) 0=least E a:=by
 have h1:=least_le E a;have h2:=reps_get E n (least E a) (by omega) (least_idem hE ha);rw[List.getD_eq_getElem?_getD];unfold idx;rw[h2];rfl
variable {A:Aut}
theorem To (hA:A.Good) {s k:Nat} (hs:s<cnt (alB A) A.N) (hk:k<A.K):
  (A.to ((reps (alB A) A.N).getD s 0) k=-1/\YT A (alB A) s k=-1)\/∃m:Nat,m<A.N/\A.to ((reps (alB A) A.N).getD s 0) k=m/\YT A (alB A) s k=(idx (alB A) m:Nat):=by
 have hr:=hA.rng _ _ (Vs hs).1 hk;unfold YT gAt;by_cases h:A.to ((reps (alB A) A.N).getD s 0) k=-1
 ·exact Or.inl ⟨h,if_pos h⟩
 ·obtain⟨m,hm⟩:=Int.eq_ofNat_of_zero_le (show 0<=A.to ((reps (alB A) A.N).getD s 0) k by omega);refine Or.inr ⟨m,by omega,hm,?_⟩;rw[if_neg h,hm,Int.toNat_natCast];rfl
theorem M1 (hm:m<A.N):Al A (least (alB A) m:Nat) m:=(alB_iff A _ _).1 (least_like (alB_eqv A A.N) hm)
theorem Lk {a:Nat} (h:Al A a b) (hk:k<A.K):Al A (A.to a k) (A.to b k):=fun w hw=>by
 have:=h (k::w) (Kd.cons hk hw)
 rwa [ext_cons,ext_cons]at this
theorem IJ {p:Nat} (hm:m<A.N) (hp:p<A.N) (h:idx (alB A) m=idx (alB A) p):Al A m p:=(alB_iff A m p).1 ((idx_eq (alB_eqv A A.N) hm hp).1 h)
theorem IK (hA:A.Good) {x k k0:Nat} (hx:x<A.N) (hk:k<A.K) (hk0:k0<A.K) (h:Cl (YT A (alB A)) (cnt (alB A) A.N) k k0=true):Al A (A.to x k) (A.to x k0):=by
 have hE:=alB_eqv A A.N;have hs:=idx_lt hE hx;have e:=Tl hE hx;have h1:=(UC _ _ _ _).1 h (idx (alB A) x) hs;have ha:=M1 hx;have h2:Al A (A.to (least (alB A) x) k) (A.to (least (alB A) x) k0):=by
  rcases To hA hs hk with ⟨p1,p2⟩|⟨m,m1,m2,m3⟩
  ·rcases To hA hs hk0 with ⟨q1,q2⟩|⟨m',n1,n2,n3⟩
   ·rw[e]at p1 q1;rw[p1,q1];exact Al.refl _ _
   ·omega
  ·rcases To hA hs hk0 with ⟨q1,q2⟩|⟨m',n1,n2,n3⟩
   ·omega
   ·rw[e]at m2 n2;rw[m2,n2];exact IJ m1 n1 (by omega)
 exact((Lk ha hk).symm.trans h2).trans (Lk ha hk0)
def fk (A:Aut) (E:Nat->Nat->Bool) (c:Nat):Nat:=(reps (Cl (YT A E) (cnt E A.N)) A.K).getD c 0
theorem I0 (hk:k<A.K):fk A (alB A) (idx (Cl (YT A (alB A)) (cnt (alB A) A.N)) k)=least (Cl (YT A (alB A)) (cnt (alB A) A.N)) k:=Tl (Qm _ _ _) hk
theorem Kr (hA:A.Good):∀(u:List Nat) (x:Int),Kd A u->x<A.N->ext A x u=ext A x (u.map fun k=>fk A (alB A) (idx (Cl (YT A (alB A)) (cnt (alB A) A.N)) k)):=by
 intro u
 induction u with
 |nil=>intro x _ _;rfl
 |cons k u ih=>
  intro x hu hx;obtain⟨hk,hu⟩:=hu.tail;by_cases h0:x<0
  ·rw[ext_none _ _ h0,ext_none _ _ h0]
  ·obtain⟨y,rfl⟩:=Int.eq_ofNat_of_zero_le (show 0<=x by omega);have hy:y<A.N:=by omega
   have hE:=Qm (YT A (alB A)) (cnt (alB A) A.N) A.K;have hle:=least_le (Cl (YT A (alB A)) (cnt (alB A) A.N)) k;have hk0:fk A (alB A) (idx (Cl (YT A (alB A)) (cnt (alB A) A.N)) k)<A.K:=by rw[I0 hk];omega
   have hc:Cl (YT A (alB A)) (cnt (alB A) A.N) k (fk A (alB A) (idx (Cl (YT A (alB A)) (cnt (alB A) A.N)) k))=true:=by
    rw[I0 hk];exact hE.symm _ _ (by omega) hk (least_like hE hk)
   rw[List.map_cons,ext_cons,ext_cons,IK hA hy hk hk0 hc u hu];exact ih _ hu (hA.rng _ _ hy hk0).2
theorem IY {A Q:Aut} (hA:A.Good) (hQ:Mq A Q):∀(w:List Nat) (s:Nat),Kd Q w->s<Q.N->ext Q s w=ext A ((reps (alB A) A.N).getD s 0:Nat) (w.map (fk A (alB A))):=by
 intro w
 induction w with
 |nil=>intro s _ hs;rw[ext_nil,hQ.v s hs];exact(ext_nil _ _).symm
 |cons c w ih=>
  intro s hw hs;obtain⟨hc,hw⟩:=hw.tail;have hs':s<cnt (alB A) A.N:=by rw[<-hQ.n];exact hs
  have hc':c<cnt (Cl (YT A (alB A)) (cnt (alB A) A.N)) A.K:=by rw[<-hQ.k];exact hc
  have hk:=(Vs hc').1;rw[List.map_cons,ext_cons,ext_cons,hQ.t s c hs hc];rcases To hA hs' hk with ⟨p1,p2⟩|⟨m,m1,m2,m3⟩
  ·rw[p2,ext_none _ _ (by omega)];have p1':A.to ((reps (alB A) A.N).getD s 0) (fk A (alB A) c)=-1:=p1;rw[p1',ext_none _ _ (by omega)]
  ·have m2':A.to ((reps (alB A) A.N).getD s 0) (fk A (alB A) c)=m:=m2;have hi:idx (alB A) m<Q.N:=by rw[hQ.n];exact idx_lt (alB_eqv A A.N) m1
   rw[m3,m2',ih _ hw hi,Tl (alB_eqv A A.N) m1];refine M1 m1 _ (fun k hk=>?_);obtain⟨d,hd,rfl⟩:=List.mem_map.1 hk;exact(Vs (by rw[<-hQ.k];exact hw d hd)).1
end Go.Proofs.YtoaaklhpmhjhkabGreat
