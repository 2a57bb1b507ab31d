import Derived.Test.YtoaaklhpmhjhkaaGreatC17
set_option maxRecDepth 100000
set_option maxHeartbeats 4000000
set_option linter.all false
namespace Go.Proofs.YtoaaklhpmhjhkaaGreat
section
open Go.RowKit
open Bm
def LB (la:Option Addr) (ls:List Nat) (w:World):Prop:=∀(k b:Nat),ls[k]?=some b->b<256/\∃blk off,la=some ⟨blk,off,none⟩/\w.cell? ⟨blk,off+k,none⟩=some (.int .u8 b)
variable {a:Act}{ops:Array Oper}{Q:Exit->Act->World->Prop}{l:List (N_)}{lc ll ll' ln ln':List Int}{rest:List Oper}{L:List Value}{K N P b base base' c cap d fuel g gb k mb n nb t tb:Nat}{F f:N_}{ob:Obj}{o op:Oper}{ad ba ha:Option Addr}{v vb vc vh vl vn vt:Value}{W W0 w w' w'' w5:World}
theorem LB.below {y:Option Addr}{ls:List Nat} (h:LB y ls w) (z:Bl w w'):LB y ls w':=λk b d=>by
 obtain⟨h1,blk,a,e,c⟩:=h k b d;refine⟨h1,blk,a,e,?_⟩;rw[z.cell (p:=(a_ blk (a+k))) (Ze w _ c)];exact c
structure NR (nb:Nat) (ha:Option Addr) (hc P:Nat) (hs:Nat->Nat->Bool) (ba:Option Addr) (bc:Nat) (bh:Nat->Nat->Bool) (F:Nat->Bool) (w:World):Prop where
 c0:w.cell? ⟨nb,0,none⟩=some (.slice ha P hc)
 c1:w.cell? ⟨nb,1,none⟩=some (.slice ba P bc)
 f:w.rangeAt nb 2 (bl F 104)
 h:HS ha hs P w
 b:BH ba bh P w
variable {bh hs:Nat->N_}
theorem NR.below {H:Nat}{z:Nat} (h:NR nb ha H P hs ba z bh F w) (y:Bl w w'):NR nb ha H P hs ba z bh F w':=by
 have a:=Ze w _ h.c0;have e:∀k,w'.cell? (a_ nb k)=w.cell? (a_ nb k):=λk=>y.cell (p:=(a_ nb k)) a
 exact⟨by rw[e];exact h.c0,by rw[e];exact h.c1,λj v c=>by rw[e];exact h.f j v c,h.h.below y,h.b.below y⟩
def MM:List Value:=[.int .i64 0,.slice none 0 0,.slice none 0 0]
theorem OX (w:World):(zeroValue 146).run Tryz.prog w=.ok (.agg #[I6 0,sN,sN]) w:=by kernel_rfl
theorem WG:(Tryz.prog.info? 146).map (·.size)=some 3:=by kernel_rfl
structure EX (K:Nat) (vs vt:Value) (l:List (Nat->Bool)) (t:List Int) (w w':World):Prop where
 g:GN (w.heap.size+1) (w.heap.size+2) K vs vt l w'
 t:OwnL (w.heap.size+2) vt t w'
 ne:∀k,vs.ownBlock=some k->vt.ownBlock≠some k
 b:Below w.heap.size w w'
 z:TC w.heap.size MM w'
theorem EX.below {vs:Value}{t:List Int} (h:EX K vs vt l t w w') (y:Bl w' w''):EX K vs vt l t w w'':=
 ⟨h.g.below y,h.t.below y,h.ne,h.b.trans (y.mono h.b.size),h.z.below y⟩
def Eb (A:(Nat->Bool)->Nat->Nat->Bool) (F:Nat->Bool) (ls:List Nat) (w:World) (e:Ending) (w':World):Prop:=
 Below w.heap.size w w' /\
 ((∃vs vt l t,e=.returned (.tuple #[.agg #[.int .i64 ls.length,vs,vt],.int .i64 0])/\WS A F ls l.length 0 l t/\XV w.heap.size vs l w'/\OwnL w.heap.size vt t w') \/
  (e=.returned (.tuple #[.agg MM.toArray,.int .i64 8])/\∃s k l t f b,WS A F ls s k l t/\l[s]?=some f/\ls[k]?=some b/\200<=Xz l (A f b)))
theorem JZ (nb:Nat) (ha:Option Addr) (hc P:Nat) (hs:Nat->N_) (ba:Option Addr) (bc:Nat) (bh:Nat->N_) (F:N_) (la:Option Addr) (lc:Nat) (ls:List Nat) (w:World) (hP:P<=96) (bI:ls.length<=256) (hN:NR nb ha hc P hs ba bc bh F w) (hL:LB la ls w):
  Cp 66 #[pT nb,.slice la ls.length lc] w (Eb (λf b=>Yh hs bh f b P) F ls w):=by
 have hz:=OX;have bb:Hid (∀w',Bl w w'->NR nb ha hc P hs ba bc bh F w'):=λw' h=>hN.below h
 have a9:Hid (∀w',Bl w w'->LB la ls w'):=λw' h=>hL.below h
 have aH:=Ze w _ hN.c0;obtain⟨A,hA⟩:∃A:(N_)->Nat->N_,A=λf b=>Yh hs bh f b P:=⟨_,rfl⟩
 rw[<-hA];have a7:Hid (∀(f:N_) (b:Nat) (W:World),b<256->Bl w W->Cp 128 #[pT nb,.agg (bl f 104).toArray,.int .u8 b] W λe w'=>e=.returned (.agg (bl (A f b) 104).toArray)/\Bl W w'):=λf b W hb hW=>by
  have h1:=hN.below hW;rw[hA];exact FV nb ha hc P hs ba bc bh f b W hP hb h1.c0 h1.c1 h1.h h1.b
 clear hA hN hL;obtain⟨K,hK⟩:∃K,K=ls.length:=⟨_,rfl⟩;have HK:Hid (K=ls.length):=hK;rw[<-hK]at bI ⊢;obtain⟨W1,aj⟩:∃W,W=w.alloc (.cells #[.int .i64 0,sN,sN] 146):=⟨_,rfl⟩;obtain⟨B,aa⟩:∃W,W=W1.alloc (.cells #[.int .i64 (K:Int),sN,sN] 146):=⟨_,rfl⟩;have ak:W1.heap.size=w.heap.size+1:=by rw[aj];simp
 have hs2:B.heap.size=w.heap.size+2:=by rw[aa];simp[ak]
 have S0:EX K (sN) (sN) [] [] w B:=by
  have T1:TC w.heap.size MM (w.alloc (.cells #[.int .i64 0,sN,sN] 146)):=TC.boxed w MM 146;have T2:=TC.boxed W1 [.int .i64 (K:Int),sN,sN] 146;have x1:=box_bel w (.cells #[.int .i64 0,sN,sN] 146);have x2:Below W1.heap.size W1 _:=box_bel W1 (.cells #[.int .i64 (K:Int),sN,sN] 146);rw[<-aj]at T1 x1;rw[show([.int .i64 (K:Int),sN,sN]:List Value).toArray=#[.int .i64 (K:Int),sN,sN] from rfl,<-aa,ak]at T2;rw[<-aa,ak]at x2;exact⟨⟨T2,XV.nil _ _⟩,OwnL.nil _ _,λk hk=>(by cases hk),x1.trans (x2.mono (by omega)),T1.block (x2.block _ (by omega))⟩
 have aI:=(bb B S0.b).f;have aN:Hid (B=(w.alloc (.cells #[.int .i64 0,sN,sN] 146)).alloc (.cells #[.int .i64 (K:Int),sN,sN] 146)):=by show _=_;rw[aa,aj]
 have aM:Hid (EX K (sN) (sN) [] [] w B):=S0;have aP:Hid (B.heap.size=w.heap.size+2):=hs2;have g1:=(S0.g.c 1 _ rfl).1;have bF:(K:Int)<=256:=by omega
 clear aj aa ak hs2 S0 hK;go_enter Tryz.func66,Tryz.ntmps66;go_wp2;rw[<-aN.out];refine wp_region_any (by kernel_rfl) ?_;change wpAny _ _ _ _ 10 _ _ B.drew;refine tJ 0 ?_
 refine tJ 2 ?_
 refine tJ 3 ?_
 refine tJ 4 ?_
 obtain⟨E,n⟩:∃E,E=B.drew.alloc (.cells (bl F 104).toArray 135):=⟨_,rfl⟩;have af:E.rangeAt B.drew.heap.size 0 (bl F 104):=by rw[n];exact(TC.boxed B.drew (bl F 104) 135).range
 have x3:Bl B E:=by rw[n];exact(Zk B.heap.size B).drew.trans (show Below B.heap.size B.drew _ from box_bel B.drew _)
 have u:=aM.out.below x3;have q4:B.drew.cell? (a_ (w.heap.size+1) 1)=some (sN):=g1;have bw:E.cell? (a_ (w.heap.size+1) 1)=some (sN):=(u.g.c 1 _ rfl).1;refine SG (fuel:=3) 1 5 6 (o4:=?o4) (o5:=?o5) (o6:=?o6) (v4:=sN) (v5:=.agg (bl F 104).toArray) (v6:=.slice (some (a_ B.drew.heap.size 0)) 1 1) (L:=#[true,true,true,true,true,true,true,false,false,false]) (A:=?A) (w':=E)
  ?h4 ?h5 ?h6 ?g4 ?g5 ?g6 ?r0 ?r1 ?r2 ?r3 ?r4 ?r5 ?x4 ?y4 ?z4 ?x5 ?y5 ?x6 ?y6 ?z6 ?l1 ?l2 ?l3 ?f1 ?f2 ?f3 ?fin
 case h4=>simp only[gel];rfl
 case h5=>simp only[gel];rfl
 case h6=>simp only[gel];rfl
 case g4=>rfl
 case g5=>rfl
 case g6=>rfl
 case r0=>kernel_rfl
 case r1=>kernel_rfl
 case r2=>kernel_rfl
 case r3=>kernel_rfl
 case r4=>kernel_rfl
 case r5=>kernel_rfl
 case x4=>go_simp
 case y4=>simp only[psm];go_simp
 case z4=>clear n;simp only[psm];go_simp
 case x5=>exact XR 135 _ rfl nb 2 rfl (bl F 104) _ (λj v hv=>aI j v hv) u_d rfl (by rw[Y9];exact Yw)
 case y5=>exact XR 135 _ rfl nb 2 rfl (bl F 104) _ (λj v hv=>aI j v hv) u_d rfl (by rw[Y9];exact Yw)
 case x6=>rw[n];exact V4 _ rfl F rfl
 case y6=>rw[n];exact V4 _ rfl F rfl
 case z6=>rw[n];exact V4 _ rfl F rfl
 case l1=>kernel_rfl
 case l2=>kernel_rfl
 case l3=>kernel_rfl
 case f1=>simp only[psm];rfl
 case f2=>simp only[psm]
 case f3=>simp only[psm]
 refine Wn 7 rfl (by kernel_rfl) ?_;simp only[ZL,Zw];obtain⟨D,hD⟩:∃D,D=B.drew.heap.size:=⟨_,rfl⟩;rw[<-hD]at af ⊢;have ap:E.heap.size=w.heap.size+3:=by
  rw[n];have:=aP.out;show(B.drew.alloc _).heap.size=_;simp[this]
 have ay:Hid (E.heap.size=w.heap.size+3):=ap;have X:Hid (EX K (sN) (sN) [] [] w E):=u;have aS:=u.g.o;have ac:w.heap.size+2<=E.heap.size:=by omega
 clear g1 aI n x3 u q4 bw hD ap aN aM aP;refine WI (by rfl) _ _ (by rfl) (w.heap.size+2) (sN) [] (by rfl) aS (by simp) D F (by rfl) af ac _ rfl ?_;intro gg O w5 H a aV aF;have u:=X.out;have d:=u.g.c.block (a.block _ u.g.c.lt (λe=>by cases e));obtain⟨cx,bm⟩:=d 1 _ rfl;have K5:=d.set 1 (by simp) (sL gg (([]:List (N_)).length+1) O);have aW:=(H.blk gg rfl).1;obtain⟨W6,r⟩:∃W,W=w5.setCell (a_ (w.heap.size+1) 1) (sL gg (([]:List (N_)).length+1) O):=⟨_,rfl⟩;rw[<-r]at K5;have G:∀k,k≠w.heap.size+1->W6.heap[k]?=w5.heap[k]?:=λk hk=>by rw[r];exact Zq w5 (a_ (w.heap.size+1) 1) _ k (λe=>hk e)
 have S6:EX K (sL gg 1 O) (sN) [F] [] w W6:=by
  have hz:=ay.out;refine⟨⟨K5,H.keep (λk hk=>G k (by cases hk;show gg≠_;omega))⟩,OwnL.nil _ _,(λk _ e=>by cases e),?_,(u.z.block (a.block _ (by omega) (λe=>by cases e))).block (G _ (by omega))⟩;rw[r];exact(u.b.grown a u.b.size (λq m=>by cases m)).setCell (p:=(a_ (w.heap.size+1) 1)) (by show w.heap.size<=w.heap.size+1;omega) _
 have ai:Hid (W6=w5.setCell (a_ (w.heap.size+1) 1) (sL gg 1 O)):=r;have U:w.heap.size+3<=W6.heap.size:=by have:=a.size;have:=ay.out;rw[r];simp[World.setCell];omega
 clear u d K5 aW r G H a aV aF af aS ac X ay;go_wp2;rw[<-ai.out];clear cx bm ai
 go_loopw [7] (λx w'=>∃(s:Nat) (vs vt:Value) (l:List (N_)) (t:List Int),x=.int .i64 s/\Hid (WS A F ls s 0 l t)/\EX K vs vt l t w w'/\w.heap.size+3<=w'.heap.size) (λx _=>201-(intOf x).toNat)
 ·exact⟨0,_,_,[F],[],rfl,WS.first,S6,U⟩
 clear S6 U;obtain⟨s,vs,vt,l,t,rfl,V,S,al⟩:=hrel;obtain⟨e1,e2,e3,e4,e5⟩:=V.out.size;have ae:(l.length:Int)<=200:=by omega
 obtain⟨ad,cap,ev,ab⟩:=S.g.o.at_;subst ev;have c1:=(S.g.c 1 _ rfl).1;by_cases aY:s<l.length
 ·have⟨hlt',hs200⟩:(s:Int)<(l.length:Int)/\s<200:=by omega
  have aL:Hid (WS A F ls s 0 l t):=V;have ar:=al;clear V e1 e2 e3 e4 e5 ab;go_wp2
  go_loopw [33] (λx w'=>∃(k:Nat) (vs vt:Value) (l:List (N_)) (t:List Int),x=.int .i64 k/\k<=K/\Hid (WS A F ls s k l t)/\s<l.length/\EX K vs vt l t w w'/\w.heap.size+3<=w'.heap.size) (λx _=>K-(intOf x).toNat)
  ·exact⟨0,_,vt,l,t,rfl,by omega,aL,aY,S,ar⟩
  clear S aL c1 ar al aY hlt' ae;obtain⟨k,vs,vt,l,t,rfl,hk,V,ah,S,al⟩:=hrel;obtain⟨e1,e2,e3,e4,e5⟩:=V.out.size;by_cases bG:k<K
  ·have bA:(k:Int)<K:=by omega
   obtain⟨f,hf⟩:∃f,l[s]?=some f:=⟨l[s],Zd ah⟩;obtain⟨b,aD⟩:∃b,ls[k]?=some b:=⟨ls[k]'(by have:=HK.out;omega),Zd _⟩;obtain⟨aC,blk,bH,rfl,cb⟩:=a9.out wr S.b k b aD;obtain⟨ad,cap,ev,ab⟩:=S.g.o.at_;obtain⟨gk,bn,rf⟩:=ab s f hf;subst bn;subst ev;have c1:=(S.g.c 1 _ rfl).1;have bB:(s:Int)<(l.length:Int):=by omega
   have ae:(l.length:Int)<=200:=by omega
   have aJ:Hid (Cp 128 #[pT nb,.agg (bl f 104).toArray,.int .u8 b] wr λe w'=>e=.returned (.agg (bl (A f b) 104).toArray)/\Bl wr w'):=a7.out f b wr aC S.b;have Hf:Hid (l[s]?=some f):=hf;have aO:Hid (ls[k]?=some b):=aD;have HS:Hid (EX K (sL gk l.length cap) vt l t w wr):=S;clear S hf aD ab e1 e2 e3 e4 e5;go_wp2_with (first|(with_reducible refine gld 135 ?_;refine Zb rfl 135 _ rfl gk (s*104) rfl (bl f 104) _ rf u_d rfl (by rw[Y9];exact Yw) ?_));refine aJ.out.mono ?_;rintro en w1 ⟨rfl,aA⟩;have S1:=HS.out.below aA;obtain⟨Q,hQ⟩:∃Q,Q=bl (A f b) 104:=⟨_,rfl⟩;have T1:=TC.boxed w1 (bl (λ_=>false) 104) 135;have x1:=box_bel w1 (.cells (bl (λ_=>false) 104).toArray 135);have ht:=Yi T1;have hG:=Y8 w1.heap.size (bl (A f b) 104) 0 (w1.alloc (.cells (bl (λ_=>false) 104).toArray 135));have T2:TC w1.heap.size (bl (A f b) 104) ((w1.alloc (.cells (bl (λ_=>false) 104).toArray 135)).setCells w1.heap.size 0 (bl (A f b) 104)):=by
    have:=T1.setPart 0 104 (A f b) (by omega);rw[YU (g:=A f b) (λi hi=>by unfold Xp;rw[p_];rfl)]at this;exact this
   have x2:=x1.grown hG x1.size (λq m=>by cases m;omega);obtain⟨E,n⟩:∃W,W=(w1.alloc (.cells (bl (λ_=>false) 104).toArray 135)).setCells w1.heap.size 0 (bl (A f b) 104):=⟨_,rfl⟩;rw[<-n]at T2 x2;rw[<-hQ]at n ⊢;have u:=S1.below x2;have rQ:=T2.range;rw[<-hQ]at rQ;have bf:Hid (E=(w1.alloc (.cells (bl (λ_=>false) 104).toArray 135)).setCells w1.heap.size 0 Q):=n;have aw:Hid (Q.length=104):=by show _=_;rw[hQ];exact Y9 _ _
   have bd:Hid (Q.toArray.all (·.oneCell')=true):=by show _=true;rw[hQ];exact YL _ _
   have bu:=aA.size;have ap:=x2.size;have bC:w.heap.size+3<=E.heap.size:=by omega
   have aK:Hid (Cp 129 #[.pointer (some (a_ (w.heap.size+1) 0)),.agg Q.toArray] E (Sj (w.heap.size+1) (w.heap.size+2) K (sL gk l.length cap) vt l (A f b) E)):=by
    rw[hQ];exact J4 (w.heap.size+1) (w.heap.size+2) K _ vt l (A f b) E u.g (by omega) (by omega) (by omega)
   have X:Hid (EX K (sL gk l.length cap) vt l t w E):=u;have bv:=SI;clear S1 u T1 T2 x1 x2 hG n hQ aA HS aJ rf cb c1 bu ap;go_wp2_with (first|(with_reducible refine gst 135 ?_;refine Za rfl 135 _ _ rfl w1.heap.size 0 Q.toArray rfl rfl (by simpa[aw.out]using ht) (by simpa[aw.out]using Yw) bd.out ?_;rw[Zc,<-bf.out])|(with_reducible refine gld 135 ?_;refine Zb rfl 135 _ rfl w1.heap.size 0 rfl Q _ rQ u_d rfl (by rw[aw.out];exact Yw) ?_));refine aK.out.mono ?_;rintro en J ⟨aq,rfl,G4,B4,bt,k4,o4⟩;have u:=X.out;obtain⟨R,hR⟩:∃R,R=Xz l (A f b):=⟨_,rfl⟩;have HR:Hid (R=Xz l (A f b)):=hR;have aT:=LA l (A f b);have ao:=u.t.blk;have N:EX K aq vt (WP l (A f b)) t w J:=by
    refine⟨G4,u.t.keep (λq m=>?_),λq m e=>?_,u.b.trans (B4.mono (by omega)),u.z.block (B4.block _ (by omega))⟩
    ·exact k4 q (ao q m).2 (λe=>by have:=(ao q m).1;omega) (λe=>u.ne q e m)
    rcases o4 q m with h|h
    ·exact u.ne q h e
    have:=(ao q e).2;omega
   rw[<-hR]at aT ⊢;have bD:w.heap.size+3<=J.heap.size:=by omega
   have bz:R<201:=by
    have h1:=Pm l (A f b);have h2:=Uq l (A f b);rw[<-hR]at h1;omega
   clear hR u X G4 B4 bt k4 o4 ao aK rQ;by_cases Z:200<=R
   ·have az:(200:Int)<=R:=Z;have tz:=N.z.there;obtain⟨M,hM⟩:∃M,M=MM:=⟨_,rfl⟩;have hG:=Y8 w.heap.size MM 0 J;have ag:=Zo J w.heap.size 0 MM tz;have y:=ZF (P:=Tryz.prog) (J.setCells w.heap.size 0 MM) w.heap.size 0 146 MM _ ag u_r rfl WG;have BX:=N.b.grown hG N.b.size (λq m=>by cases m;omega);obtain⟨WX,I⟩:∃W,W=J.setCells w.heap.size 0 MM:=⟨_,rfl⟩;rw[<-I]at y BX;have ax:Hid (WX=J.setCells w.heap.size 0 [.int .i64 0,sN,sN]):=I;have Y:Hid ((loadVar 146 (a_ w.heap.size 0)).run Tryz.prog WX=.ok (.agg MM.toArray) WX):=y;have bx:J.there w.heap.size 0 3:=tz;clear hM hG ag y I N tz;go_wp2_with (first|(with_reducible refine gst 146 ?_;refine X9.out ?_));refine⟨?_⟩;refine Za rfl 146 _ _ rfl w.heap.size 0 #[.int .i64 0,sN,sN] rfl rfl bx WG (by simp[Value.oneCell']) ?_;rw[Zc,<-ax.out];go_wp2;refine Zr (v:=.tuple #[.agg MM.toArray,.int .i64 8]) (XO Tryz.results66 rfl Y.out rfl) rfl ?_;exact⟨BX,Or.inr ⟨rfl,s,k,l,t,f,b,V.out,Hf.out,aO.out,by rw[<-HR.out];exact Z⟩⟩
   have az:¬(200:Int)<=R:=Z;have c2:=(N.g.c 2 _ rfl).1;obtain⟨ta,au,et,_⟩:=N.t.il;have bj:Hid (vt=.slice ta t.length au):=et;rw[et]at c2;have hx:=box_bel J (.cells #[.int .i64 R] 3);have aB:=N.t.below hx;have aH:(J.alloc (.cells #[.int .i64 R] 3)).cell? (a_ J.heap.size 0)=some (.int .i64 R):=by rw[Zm];rfl
   have ac:w.heap.size+2<=(J.alloc (.cells #[.int .i64 R] 3)).heap.size:=by have:=hx.size;omega
   have be:Hid (EX K aq vt (WP l (A f b)) t w J):=N;have a6:t.length<=1000000:=by
    obtain⟨a1,a2,a3,a4,a5⟩:=V.out.size;have h1:s*ls.length<=200*256:=Nat.mul_le_mul (by omega) (by have:=HK.out;omega);omega
   rw[et]at aB;clear N hx et;go_wp2_with (first|(at_builtin;refine Bm.wpList_append_int (by rfl) _ _ (by rfl) (w.heap.size+2) (.slice ta t.length au) t (by rfl) aB a6 J.heap.size R (by rfl) aH ac _ rfl ?_;intro g T w5 H a aE aF;refine X9.out ?_));refine⟨?_⟩
   (try simp only[psm])
   have N:=be.out;have x4:=box_bel J (.cells #[.int .i64 R] 3);have C:=N.below x4;have aU:=bj.out;rw[<-aU]at a aE;have am:=N.t.blk;have d:=C.g.c.block (a.block _ C.g.c.lt (λe=>by have:=(am _ e.symm).1;omega));obtain⟨cy,bE⟩:=d 2 _ rfl;have K6:=d.set 2 (by simp) (sL g (t.length+1) T);obtain⟨W6,r⟩:∃W,W=w5.setCell (a_ (w.heap.size+1) 2) (sL g (t.length+1) T):=⟨_,rfl⟩;rw[<-r]at K6;have G:∀q,q≠w.heap.size+1->W6.heap[q]?=w5.heap[q]?:=λq m=>by rw[r];exact Zq w5 (a_ (w.heap.size+1) 2) _ q (λe=>m e)
   have bp:=(H.blk g rfl).1;have an:=C.g.o.blk;have aG:=N.ne;have br:=a.size;have S6:EX K aq (sL g (t.length+1) T) (WP l (A f b)) (t++[R]) w W6:=by
    refine⟨⟨K6,(C.g.o.keep (λq m=>a.block q (an q m).2 (λe=>aG q m e.symm))).keep (λq m=>G q (λe=>by have:=(an q m).1;omega))⟩,H.keep (λq m=>G q (by cases m;show g≠_;omega)),λq m e=>?_,?_,(C.z.block (a.block _ (by have:=C.b.size;have:=x4.size;omega) (λe=>by have:=(am _ e.symm).1;omega))).block (G _ (by omega))⟩
    ·have e2:g=q:=Zh e;rcases aE with h|h
     ·rw[e2]at h;exact aG q m h
     have:=(an q m).2;omega
    rw[r];exact(C.b.grown a C.b.size (λq m=>by have:=(am q m).1;omega)).setCell (p:=(a_ (w.heap.size+1) 2)) (by show w.heap.size<=w.heap.size+1;omega) _
   have av:Hid (WS A F ls s (k+1) (WP l (A f b)) (t++[R])):=by
    have:=WS.kind V.out Hf.out aO.out (by rw[<-HR.out];omega);rw[<-HR.out]at this;exact this
   have a0:s<(WP l (A f b)).length:=by have:=Uq l (A f b);omega
   have U:w.heap.size+3<=W6.heap.size:=by have:=x4.size;rw[r];simp[World.setCell];omega
   have ai:Hid (W6=w5.setCell (a_ (w.heap.size+1) 2) (sL g (t.length+1) T)):=r;clear N C x4 aU am d K6 r G bp an aG br H a aE aF aB aH ac c2 a6;go_wp2
   (try simp only[Act.put])
   rw[<-ai.out];go_roundw
   ·exact⟨k+1,aq,_,WP l (A f b),t++[R],by go_num,by omega,av,a0,S6,U⟩
   simp[intOf];omega
  have bq:¬(k:Int)<K:=by omega
  have aX:k=ls.length:=by have:=HK.out;omega
  have av:Hid (WS A F ls (s+1) 0 l t):=WS.set (by have:=V.out;rw[aX]at this;exact this) ah;clear e3 aX;go_wp2;go_roundw
  ·exact⟨s+1,vs,vt,l,t,by go_num,av,S,al⟩
  simp[intOf];omega
 have⟨bq,ah⟩:¬(s:Int)<(l.length:Int)/\s=l.length:=by omega
 have a8:Hid (WS A F ls l.length 0 l t):=by have:=V.out;rw[ah]at this;exact this
 have cG:=S.g.c;obtain⟨M,hM⟩:∃M,M=[.int .i64 (K:Int),.slice ad l.length cap,vt]:=⟨_,rfl⟩;have rM:=cG.range;have tz:wr.there w.heap.size 0 3:=S.z.there;have aZ:vt.oneCell'=true:=by obtain⟨a1,c1,e1,_⟩:=S.t.il;rw[e1];rfl
 have hG:=Y8 w.heap.size [.int .i64 (K:Int),.slice ad l.length cap,vt] 0 wr;have ag:=Zo wr w.heap.size 0 [.int .i64 (K:Int),.slice ad l.length cap,vt] tz;have y:=ZF (P:=Tryz.prog) (wr.setCells w.heap.size 0 [.int .i64 (K:Int),.slice ad l.length cap,vt]) w.heap.size 0 146 [.int .i64 (K:Int),.slice ad l.length cap,vt] _ ag u_r rfl WG;have BX:=S.b.grown hG S.b.size (λq m=>by cases m;omega);have aQ:=S.g.o.blk;have aR:=S.t.blk;have OS:=S.g.o.grown hG (λq m e=>by have:=Zh e;have:=(aQ q m).1;omega);have OT:=S.t.grown hG (λq m e=>by have:=Zh e;have:=(aR q m).1;omega);obtain⟨WX,I⟩:∃W,W=wr.setCells w.heap.size 0 [.int .i64 (K:Int),.slice ad l.length cap,vt]:=⟨_,rfl⟩;rw[<-I]at y BX OS OT;have ax:Hid (WX=wr.setCells w.heap.size 0 [.int .i64 (K:Int),.slice ad l.length cap,vt]):=I;have Y:Hid ((loadVar 146 (a_ w.heap.size 0)).run Tryz.prog WX=.ok (.agg #[.int .i64 (K:Int),.slice ad l.length cap,vt]) WX):=y;have bi:Hid ((#[.int .i64 (K:Int),.slice ad l.length cap,vt]:Array Value).all (·.oneCell')=true):=by
  show([.int .i64 (K:Int),.slice ad l.length cap,vt]:List Value).toArray.all (·.oneCell')=true;rw[List.all_toArray];simp only[List.all_cons,List.all_nil,aZ];rfl
 have HO:Hid (XV w.heap.size (.slice ad l.length cap) l WX/\OwnL w.heap.size vt t WX/\Bl w WX):=⟨Od OS (by omega),OT.mono (by omega),BX⟩;clear hM hG ag y I S BX aQ aR OS OT cG V e1 e2 e3 e4 e5 ab ah;go_wp2_with (first|(with_reducible refine gld 146 ?_;refine X9.out ?_));refine⟨?_⟩;refine Zb rfl 146 _ rfl (w.heap.size+1) 0 rfl [.int .i64 (K:Int),.slice ad l.length cap,vt] _ rM u_r rfl WG ?_
 (try simp only[psm])
 refine Za rfl 146 _ _ rfl w.heap.size 0 #[.int .i64 (K:Int),.slice ad l.length cap,vt] rfl rfl tz WG bi.out ?_;rw[Zc,<-ax.out];go_wp2;refine Zr (v:=.tuple #[.agg #[.int .i64 (K:Int),.slice ad l.length cap,vt],.int .i64 0]) (XO Tryz.results66 rfl Y.out rfl) rfl ?_;obtain⟨o1,o2,o3⟩:=HO.out;exact⟨o3,Or.inl ⟨_,vt,l,t,by rw[<-HK.out],a8.out,o1,o2⟩⟩
theorem Lx (es:Nat->Rx):∀n p,p<Y2 es n->∃k,k<n/\Y2 es k<=p/\p<Y2 es (k+1):=by
 intro n
 induction n with
 |zero=>intro p a;simp[Y2]at a
 |succ n ih=>
  intro p a;rcases ZD p (Y2 es n)with h|h
  ·obtain⟨k,h1,h2⟩:=ih p h;exact⟨k,by omega,h2⟩
  exact⟨n,by omega,h,a⟩
theorem Ir (es:Nat->Rx):∀n k p b,k<n->Y2 es k<=p->p<Y2 es (k+1)->Xn es n p b=(es k).has (Y2 es k) p b:=by
 intro n
 induction n with
 |zero=>intro k p b a;omega
 |succ n ih=>
  intro k p b a h1 h2;simp only[Xn,Uy];by_cases e:k=n
  ·subst e;rw[g_]
  have:=XY es (show k+1<=n by omega);rw[p_];exact ih k p b (by omega) h1 h2
theorem QY (es:Nat->Rx):∀n k p q,k<n->Y2 es k<=p->p<Y2 es (k+1)->Ty es n p q=((es k).fol (Y2 es k) p q || (decide (q=96+k)&&(es k).lst (Y2 es k) p)):=by
 intro n
 induction n with
 |zero=>intro k p b a;omega
 |succ n ih=>
  intro k p q a h1 h2;simp only[Ty,bhR,Tu];by_cases e:k=n
  ·subst e;rw[g_];simp[h2]
  have c:=XY es (show k+1<=n by omega);rw[p_,ih k p q (by omega) h1 h2,Rx.lst_lt (e:=es n) (o:=Y2 es n) (p:=p) (Or.inl (by omega))];simp
theorem TZ (es:Nat->Rx):∀n q,q<96->(X5 es n q=true<->∃k,k<n/\(es k).fst (Y2 es k) q=true):=by
 intro n
 induction n with
 |zero=>intro q _;simp[X5]
 |succ n ih=>
  intro q a;simp only[X5,FR,if_pos a,Bool.or_eq_true,ih q a];constructor
  ·rintro (⟨k,h1,h2⟩|h)
   ·exact⟨k,by omega,h2⟩
   exact⟨n,by omega,h⟩
  rintro ⟨k,h1,h2⟩;by_cases e:k=n
  ·subst e;exact Or.inr h2
  exact Or.inl ⟨k,by omega,h2⟩
theorem Qq (es:Nat->Rx):∀n r,X5 es n (96+r)=(decide (r<n)&&(es r).nul):=by
 intro n
 induction n with
 |zero=>intro r;simp[X5]
 |succ n ih=>
  intro r;simp only[X5,FR];rw[g_];by_cases e:r=n
  ·subst e;simp
  rw[g_,ih r];by_cases h:r<n
  ·simp[h,show r<n+1 by omega]
  simp[h,show ¬r<n+1 by omega]
structure Pb (P:Nat) (hs bh:Nat->Nat->Bool) (F:Nat->Bool):Prop where
 le:P<=96
 has:∀p,p<P->∃b,b<256/\hs p b=true
 rng:∀p q,p<P->q<96->bh p q=true->q<P
 rngF:∀q,q<96->F q=true->q<P
 some:∃q,q<104/\F q=true
inductive K3 (P:Nat) (bh:Nat->Nat->Bool):Nat->Prop
 |last {p r:Nat} (hp:p<P) (hr:r<8) (h:bh p (96+r)=true):K3 P bh p
 |next {p q:Nat} (hp:p<P) (hq:q<P) (h:bh p q=true) (k:K3 P bh q):K3 P bh p
theorem Kw (es:Nat->Rx) (n:Nat) (y:n<=8) (_hP:Y2 es n<=96):∀p,p<Y2 es n->K3 (Y2 es n) (Ty es n) p:=by
 intro p d;obtain⟨k,b,h1,h2⟩:=Lx es n p d;have e:=Rx.rch_any (es k) (Y2 es k) p h1 (by simpa[Y2]using h2);have a:=XY es (show k+1<=n from b);clear h1 h2 d
 induction e with
 |last h=>
  have c:=Rx.lst_rng (es k) _ _ h;refine K3.last (r:=k) (by simp only[Y2]at a;omega) (by omega) ?_;rw[QY es n k _ _ b c.1 (by simp only[Y2];omega)];simp[h]
 |next h _ ih=>
  have c:=Rx.fol_rng (es k) _ _ _ h;refine K3.next (by simp only[Y2]at a;omega) (by simp only[Y2]at a;omega) ?_ ih;rw[QY es n k _ _ b c.1 (by simp only[Y2];omega)];simp[h]
theorem Ky (es:Nat->Rx) (n:Nat) (h1:1<=n) (H:n<=8) (y:Y2 es n<=96) (z:∀k,k<n->(es k).Full):Pb (Y2 es n) (Xn es n) (Ty es n) (X5 es n):=by
 refine⟨y,λp d=>?_,λp q d g h=>?_,λq g h=>?_,?_⟩
 ·obtain⟨k,c,e,f⟩:=Lx es n p d;obtain⟨b,i,j⟩:=Rx.full_has (es k) (Y2 es k) p (z k c) e (by simpa[Y2]using f);exact⟨b,i,by rw[Ir es n k p b c e f];exact j⟩
 ·obtain⟨k,c,e,f⟩:=Lx es n p d;rw[QY es n k p q c e f]at h;have a:=XY es (show k+1<=n from c);simp only[Bool.or_eq_true,ZS,decide_eq_true_eq]at h;rcases h with h|⟨h,_⟩
  ·have:=Rx.fol_rng (es k) _ _ _ h;simp only[Y2]at a;omega
  omega
 ·obtain⟨k,c,h2⟩:=(TZ es n q g).1 h;have a:=XY es (show k+1<=n from c);have:=Rx.fst_rng (es k) _ _ h2;simp only[Y2]at a;omega
 rcases Rx.nul_or_fst (es 0) (Y2 es 0)with h|⟨p,h⟩
 ·exact⟨96,by omega,by have:=Qq es n 0;rw[Nat.add_zero]at this;rw[this];simp[h];omega⟩
 have l:=Rx.fst_rng (es 0) _ _ h;have a:=XY es (show 0+1<=n from h1);have d:p<96:=by simp only[Y2]at a l;omega
 exact⟨p,by omega,(TZ es n p d).2 ⟨0,by omega,h⟩⟩
def D9 (t:List Int):Nat:=t.foldl (λm x=>if x=(m:Int) then m+1 else m) 1
theorem Kk (t:List Int) (x:Int):D9 (t++[x])=if x=(D9 t:Int) then D9 t+1 else D9 t:=by unfold D9;rw[List.foldl_append];rfl
structure BB (A:(Nat->Bool)->Nat->Nat->Bool) (ls:List Nat) (s k:Nat) (l:List (Nat->Bool)) (t:List Int):Prop where
 kn:D9 t=l.length
 le:∀i x,t[i]?=some x->x<=(D9 (t.take i):Int)
 row:∀s',s'<s\/(s'=s/\0<k)->s'<D9 (t.take (s'*ls.length))
 to:∀s' k',k'<ls.length->s'*ls.length+k'<t.length->∃f b x,l[s']?=some f/\ls[k']?=some b/\t[s'*ls.length+k']?=some x /\
  ((Yu (A f b) U9 104=true/\x=-1)\/∃(j:Nat) (g:Nat->Bool),x=j/\l[j]?=some g/\Yu g (A f b) 104=true)
theorem WS.fnd {A:(N_)->Nat->N_}{ls:List Nat}{s:Nat}{t:List Int} (h:WS A F ls s k l t):BB A ls s k l t:=by
 induction h with
 |first=>exact⟨rfl,λi x h=>by simp at h,λa h=>by omega,λa m _ h=>by simp at h⟩
 |@kind s k l t f b h hf hb hr ih=>
  obtain⟨E,e2,z,G,H⟩:=h.size;have p:=(Zi.1 hb).1;have hs:=(Zi.1 hf).1;have I:=Pm l (A f b);have v:=Uq l (A f b);have u:D9 (t++[Xz l (A f b)])=(WP l (A f b)).length:=by
   rw[Kk,ih.kn];rcases v with h1|⟨h1,h2⟩
   ·rw[g_,h1]
   rw[if_pos h2,h1]
  refine⟨u,λi x e=>?_,λa w=>?_,λa m n o=>?_⟩
  ·rcases ZD i t.length with o|o
   ·rw[Zv o]at e;rw[List.take_append_of_le_length (by omega)];exact ih.le i x e
   have c:i=t.length:=by
    have:=(Zi.1 e).1;simp at this;omega
   subst c;rw[ZG (by omega)]at e;simp at e;rw[List.take_append_of_le_length (by omega),List.take_length,ih.kn,<-e];omega
  ·by_cases h0:a=s/\k=0
   ·obtain⟨rfl,rfl⟩:=h0;rw[List.take_append_of_le_length (by omega),show a*ls.length=t.length by omega,List.take_length,ih.kn];exact hs
   have h1:a<s\/(a=s/\0<k):=by omega
   have h2:a*ls.length<=t.length:=by
    have:a*ls.length<=s*ls.length:=ZQ _ (by omega);omega
   rw[List.take_append_of_le_length h2];exact ih.row a h1
  rw[Zl,List.length_singleton]at o;rcases ZD (a*ls.length+m) t.length with h1|h1
  ·obtain⟨f',b',x,B,C,D,q⟩:=ih.to a m n h1;refine⟨f',b',x,Lz B,C,by rw[Zv h1];exact D,?_⟩;rcases q with q|⟨j,g,c1,c2,c3⟩
   ·exact Or.inl q
   exact Or.inr ⟨j,g,c1,Lz c2,c3⟩
  have c:a*ls.length+m=s*ls.length+k:=by omega
  have d:a=s/\m=k:=by
   have r:=Qg (s:=a) n;have y:=Qg (s:=s) p;rw[c]at r;exact⟨r.1.symm.trans y.1,r.2.symm.trans y.2⟩
  obtain⟨rfl,rfl⟩:=d;refine⟨f,b,Xz l (A f b),Lz hf,hb,by rw[show a*ls.length+m=t.length by omega];simp,?_⟩;cases hn:Yu (A f b) U9 104
  ·obtain⟨j,g,c1,c2,c3⟩:=DN (l:=l) hn;exact Or.inr ⟨j,g,c1,c2,c3⟩
  exact Or.inl ⟨rfl,by unfold Xz;rw[if_pos hn]⟩
 |@set s l t h hs ih=>
  obtain⟨E,e2,z,G,H⟩:=h.size;refine⟨ih.kn,ih.le,λa w=>?_,ih.to⟩;by_cases h0:a<s
  ·exact ih.row a (Or.inl h0)
  have d:a=s:=by omega
  subst d;rcases Nat.eq_zero_or_pos ls.length with hz|hz
  ·rw[hz,Nat.mul_zero,List.take_zero];have:t=[]:=List.eq_nil_of_length_eq_zero (by rw[z,hz];simp);have p:=ih.kn;rw[this]at p;rw[p];exact hs
  exact ih.row a (Or.inr ⟨rfl,hz⟩)
def Xu (l:List (Nat->Bool)) (t:List Int) (K:Nat):Aut:=⟨l.length,K,λs k=>t.getD (s*K+k) (-1),λs=>To (λr=>(l.getD s U9) (96+r)) 8 0⟩
theorem Nt (l:List (N_)) (t:List Int) (K i:Nat) (_hK:0<K):fl (Xu l t K) i=t.getD i (-1):=by
 unfold fl Xu;simp only;rw[Nat.mul_comm,Nat.div_add_mod]
theorem Nv (l:List (N_)) (t:List Int) (K:Nat) (y:0<K):∀i,i<=t.length->kn (Xu l t K) i=D9 (t.take i):=by
 intro i
 induction i with
 |zero=>intro _;rfl
 |succ i ih=>
  intro b;have a:i<t.length:=by omega
  rw[kn,ih (by omega),Nt l t K i y,List.take_succ,Zd a];simp only[Option.toList_some];rw[Kk,Zf,Zd a];rfl
theorem FZ {A:(N_)->Nat->N_}{ls:List Nat}{t:List Int} (y:0<ls.length) (h:WS A F ls l.length 0 l t):Bfs (Xu l t ls.length):=by
 obtain⟨d,e2,f,g,j⟩:=h.size;have b:=h.fnd;have c:t.length=l.length*ls.length:=by omega
 refine⟨d,λi e=>?_,λs hs=>?_,?_⟩
 ·have a:i<t.length:=by rw[c];exact e
  rw[Nt _ _ _ _ y,Nv _ _ _ y i (by omega),Zf,Zd a];exact b.le i t[i] (Zd a)
 ·have k:s*ls.length<=l.length*ls.length:=ZQ _ (ZM hs);show s<kn (Xu l t ls.length) (s*ls.length);rw[Nv _ _ _ y _ (by omega)];exact b.row s (Or.inl hs)
 show kn (Xu l t ls.length) (l.length*ls.length)=l.length;rw[Nv _ _ _ y _ (by omega),List.take_of_length_le (by omega)];exact b.kn
theorem OV:∀u r x,r<=x->x<r+u->f x=true->To f u r≠-1
 |0,r,x,h1,h2,_=>by omega
 |u+1,r,x,h1,h2,h=>by
  rw[To];split
  ·omega
  rename_i a;have:r≠x:=λe=>a (by rw[e];exact h)
  exact OV u (r+1) x (by omega) (by omega) h
def Ce (hs:Nat->Nat->Bool) (P:Nat) (ls:List Nat):Prop:=∀b,b<256->∃(k c:Nat),ls[k]?=some c/\∀p,p<P->hs p c=hs p b
theorem ED {ls:List Nat} (y:Pb P hs bh F) {s k:Nat}{l:List (N_)}{t:List Int} (h:WS (λf b=>Yh hs bh f b P) F ls s k l t):∀g∈l,(∃q,q<104/\g q=true)/\∀q,q<96->g q=true->q<P:=by
 induction h with
 |first=>intro g a;rw[ZC.1 a];exact⟨y.some,y.rngF⟩
 |@kind s k l t f b h hf hb hr ih=>
  intro g a;unfold WP at a;split at a
  ·exact ih g a
  rename_i d;split at a
  ·exact ih g a
  rcases ZU.1 a with h1|h1
  ·exact ih g h1
  rw[ZC.1 h1];refine⟨?_,λq e c=>?_⟩
  ·apply Classical.byContradiction;intro i;apply d;rw[WA];intro q e;cases hv:Yh hs bh f b P q
   ·rfl
   exact absurd ⟨q,e,hv⟩ i
  simp only[Yh,List.any_eq_true,ZI,ZS]at c;obtain⟨p,j,⟨_,_⟩,h3⟩:=c;exact y.rng p q j e h3
 |set h hs ih=>exact ih
theorem Nu {ls:List Nat} (Z:Pb P hs bh F) (hG:∀p,p<P->K3 P bh p) (hR:Ce hs P ls) {l:List (N_)}{t:List Int} (h:WS (λf b=>Yh hs bh f b P) F ls l.length 0 l t):(Xu l t ls.length).Good:=by
 obtain⟨V,e2,W,X,Y⟩:=h.size;have T:=h.fnd;have u:=ED Z h;have I:=h.range;have o:∀s k,s<l.length->k<ls.length->s*ls.length+k<t.length:=λs k h1 h2=>by
  have:(s+1)*ls.length<=l.length*ls.length:=ZQ _ h1;rw[Nat.add_mul]at this;omega
 have B:∀s k,s<l.length->k<ls.length->(Xu l t ls.length).to s k=t[s*ls.length+k]?.getD (-1):=λs k _ _=>by simp[Xu,Zf]
 refine⟨λs k h1 h2=>?_,λs J G=>?_⟩
 ·have C:=o s k h1 h2;rw[B s k h1 h2,Zd C];exact I _ (List.getElem_mem C)
 -- from a place an end can be come to
 have L:∀(p:Nat),K3 P bh p->∀(s:Nat) (f:N_),l[s]?=some f->f p=true->∃w,Kd (Xu l t ls.length) w/\ext (Xu l t ls.length) s w≠-1:=by
  have step:∀(p:Nat),p<P->∀(s:Nat) (f:N_),l[s]?=some f->f p=true->∀(q:Nat),q<104->bh p q=true->∃(k:Nat),k<ls.length/\∃(j:Nat) (g:N_),(Xu l t ls.length).to s k=j/\l[j]?=some g/\g q=true:=by
   intro p v s f d e q D H;obtain⟨b,Q,R⟩:=Z.has p v;obtain⟨k,c,y,S⟩:=hR b Q;have m:=(Zi.1 y).1;have i:=(Zi.1 d).1;have C:=o s k i m;obtain⟨f',b',x,M,N,O,E⟩:=T.to s k m C;rw[d]at M;rw[y]at N;cases M;cases N;have n:Yh hs bh f c P q=true:=by
    simp only[Yh,List.any_eq_true,ZI,ZS];exact⟨p,v,⟨e,by rw[S p v];exact R⟩,H⟩
   rcases E with ⟨E,_⟩|⟨j,g,c1,c2,c3⟩
   ·have:=(WA _ _ _).1 E q D;rw[n]at this;cases this
   refine⟨k,m,j,g,by rw[B s k i m,O];exact c1,c2,?_⟩;rw[(WA _ _ _).1 c3 q D];exact n
  intro p U
  induction U with
  |@last p r v hr z=>
   intro s f d e;obtain⟨k,y,j,g,h1,h2,h3⟩:=step p v s f d e (96+r) (by omega) z;refine⟨[k],(Kd.nil _).cons y,?_⟩;rw[ext_cons,h1,ext_nil];show To (λr=>(l.getD j U9) (96+r)) 8 0≠-1;exact OV 8 0 r (by omega) (by omega) (by rw[Zf,h2];exact h3)
  |@next p q v D z _ ih=>
   intro s f d e;obtain⟨k,y,j,g,h1,h2,h3⟩:=step p v s f d e q (by have:=Z.le;omega) z;obtain⟨w,w1,w2⟩:=ih j g h2 h3;exact⟨k::w,w1.cons y,by rw[ext_cons,h1];exact w2⟩
 have i:=J;have A:=Zd i;obtain⟨⟨q,D,K⟩,z⟩:=u l[s] (List.getElem_mem i);have:∃w,Kd (Xu l t ls.length) w/\ext (Xu l t ls.length) s w≠-1:=by
  rcases ZD q 96 with h1|h1
  ·exact L q (hG q (z q h1 K)) s l[s] A K
  refine⟨[],Kd.nil _,?_⟩;rw[ext_nil];show To (λr=>(l.getD s U9) (96+r)) 8 0≠-1;refine OV 8 0 (q-96) (by omega) (by omega) ?_;rw[Zf,A,show 96+(q-96)=q by omega];exact K
 obtain⟨w,w1,w2⟩:=this;exact w2 (by rw[G w w1];exact ext_none _ _ (by omega))
theorem WV (w:World):(zeroValue 25).run Tryz.prog w=.ok (.agg #[I6 0,sN,sN,sN]) w:=by kernel_rfl
theorem Yl:(Tryz.prog.info? 25).map (·.size)=some 4:=by kernel_rfl
def kl (f:Nat->Int):List Value:=(List.range 256).map λi=>.int .i64 (f i)
theorem E2 (f:Nat->Int):(kl f).length=256:=by simp[kl]
theorem DG:(Tryz.prog.info? 140).map (·.size)=some 256:=by kernel_rfl
theorem D0 (f:Nat->Int) (k:Nat) (y:k<256) (w:World):(Instr.index 140 (.agg (kl f).toArray) (I6 k)).run Tryz.prog w=.ok (I6 (f k)) w:=by
 have hs:(sizeOf 3).run Tryz.prog w=.ok 1 w:=by kernel_rfl
 have a:(kl f).toArray[k]?=some (I6 (f k)):=by simp[kl,y]
 have b:(part 3 (kl f).toArray (k*1)).run Tryz.prog w=.ok (I6 (f k)) w:=run_part_plain w (by kernel_rfl) (by rw[Nat.mul_one];exact a);simp only[Instr.index,asIntOf,Sem.run_bind,Sem.run_pure,Zu,run_underlying Tryz.underlying140,Sem.run_ite,hs];rw[p_,ZE];exact b
theorem Jw (y:op.guard=none) (x i:Operand) (J:op.op=.index 140 x i) (f:Nat->Int) (Y:a.eval x=.agg (kl f).toArray) (k:Nat) (z:a.eval i=I6 k) (H:k<256)
  (h:wpList Tryz.prog ops Q rest (a.put op.dst (I6 (f k))) w):wpList Tryz.prog ops Q (op::rest) a w:=
 wpList_plain y λ_ b=>by
  unfold Oper.wp execOp;have c:=D0 f k H w;simp only[J,Y,z,Sem.run_bind,c,Zu,Sem.run_pure];exact b _ _ h
theorem Xs (x:Operand) (y:o.op=.buildSlice 23 1 #[(0,x)]) (v:Int) (z:a.eval x=I6 v):
  (execOp a.eval o).run Tryz.prog w=.ok (.value (.slice (some (a_ w.heap.size 0)) 1 1)) (w.alloc (.cells #[I6 v] 3)):=by
 unfold execOp;have b:(Instr.buildSlice 23 1 #[(0,I6 v)]).run Tryz.prog w=.ok (.slice (some (a_ w.heap.size 0)) 1 1) (w.alloc (.cells #[I6 v] 3)):=by kernel_rfl
 have e:(#[((0:Nat),x)].map λ(p:Nat × Operand)=>(p.1,a.eval p.2))=#[(0,I6 v)]:=by simp[z]
 simp only[y,Sem.run_bind,e,b,Zu,Sem.run_pure]
structure MS (mb:Nat) (W0:World) (vc vl vn:Value) (lc ll ln:List Int) (w':World):Prop where
 c:TC mb [.int .i64 0,vc,vl,vn] w'
 oc:OwnL W0.heap.size vc lc w'
 ol:OwnL W0.heap.size vl ll w'
 on:OwnL W0.heap.size vn ln w'
 n1:∀k,vc.ownBlock=some k->vl.ownBlock≠some k
 n2:∀k,vc.ownBlock=some k->vn.ownBlock≠some k
 n3:∀k,vl.ownBlock=some k->vn.ownBlock≠some k
 b:Below mb W0 w'
 k:∀k,k<W0.heap.size->k≠mb->w'.heap[k]?=W0.heap[k]?
theorem MS.below (h:MS mb W0 vc vl vn lc ll ln w') (y:Bl w' w'') (z:mb<W0.heap.size):MS mb W0 vc vl vn lc ll ln w'':=
 ⟨h.c.below y,h.oc.below y,h.ol.below y,h.on.below y,h.n1,h.n2,h.n3,h.b.trans (y.mono (by have:=h.b.size;omega)),λk h1 h2=>by rw[y.block k (by have:=h.b.size;omega)];exact h.k k h1 h2⟩
theorem MS.put1 {H:List Int} (h:MS mb W0 vc vl vn lc ll ln w') (Y:mb<W0.heap.size) (J:OwnL W0.heap.size (sL g n cap) H w5) (y:(w'.alloc ob).grownBy w5 vc.ownBlock) (z:vc.ownBlock=some g\/g=(w'.alloc ob).heap.size):
  w5.cell? (a_ mb 1)=some vc/\w5.frozen? (a_ mb 1)=false/\MS mb W0 (sL g n cap) vl vn H ll ln (w5.setCell (a_ mb 1) (sL g n cap)):=by
 have x:=box_bel w' ob;have hz:(w'.alloc ob).heap.size=w'.heap.size+1:=by simp
 have a:=h.below x Y;have j:=h.oc.blk;have l:=h.ol.blk;have m:=h.on.blk;have hs:=h.b.size;have f:=a.c.block (y.block _ a.c.lt (λe=>by have:=(j _ e.symm).1;omega));obtain⟨c1,c2⟩:=f 1 _ rfl;have i:∀q,q≠mb->(w5.setCell (a_ mb 1) (sL g n cap)).heap[q]?=w5.heap[q]?:=λq d=>Zq w5 (a_ mb 1) _ q (λe=>d e)
 have o:=(J.blk g rfl).1;refine⟨c1,c2,f.set 1 (by simp) _,J.keep (λq d=>i q (by cases d;show g≠mb;omega)),(a.ol.grown y (λq d e=>h.n1 q e d)).keep (λq d=>i q (λe=>by have:=(l q d).1;omega)),(a.on.grown y (λq d e=>h.n2 q e d)).keep (λq d=>i q (λe=>by have:=(m q d).1;omega)),λq d e=>?_,λq d e=>?_,h.n3,?_,λq h1 h2=>?_⟩
 ·have e2:=Zh d;subst e2;rcases z with h1|h1
  ·exact h.n1 g h1 e
  have:=(l g e).2;omega
 ·have e2:=Zh d;subst e2;rcases z with h1|h1
  ·exact h.n2 g h1 e
  have:=(m g e).2;omega
 ·exact(a.b.grown y (by have:=a.b.size;omega) (λq d=>by have:=(j q d).1;omega)).setCell (p:=(a_ mb 1)) (Zg _) _
 rw[i q h2,y.block q (by omega) (λe=>by have:=(j q e.symm).1;omega)];exact a.k q h1 h2
theorem MS.put2 (h:MS mb W0 vc vl vn lc ll ln w') (J:mb<W0.heap.size) (H:OwnL W0.heap.size (sL g n cap) ll' w5) (y:(w'.alloc ob).grownBy w5 vl.ownBlock) (z:vl.ownBlock=some g\/g=(w'.alloc ob).heap.size):
  w5.cell? (a_ mb 2)=some vl/\w5.frozen? (a_ mb 2)=false/\MS mb W0 vc (sL g n cap) vn lc ll' ln (w5.setCell (a_ mb 2) (sL g n cap)):=by
 have x:=box_bel w' ob;have hz:(w'.alloc ob).heap.size=w'.heap.size+1:=by simp
 have a:=h.below x J;have j:=h.ol.blk;have l:=h.oc.blk;have m:=h.on.blk;have hs:=h.b.size;have f:=a.c.block (y.block _ a.c.lt (λe=>by have:=(j _ e.symm).1;omega));obtain⟨c1,c2⟩:=f 2 _ rfl;have i:∀q,q≠mb->(w5.setCell (a_ mb 2) (sL g n cap)).heap[q]?=w5.heap[q]?:=λq d=>Zq w5 (a_ mb 2) _ q (λe=>d e)
 have o:=(H.blk g rfl).1;refine⟨c1,c2,f.set 2 (by simp) _,(a.oc.grown y (λq d e=>h.n1 q d e)).keep (λq d=>i q (λe=>by have:=(l q d).1;omega)),H.keep (λq d=>i q (by cases d;show g≠mb;omega)),(a.on.grown y (λq d e=>h.n3 q e d)).keep (λq d=>i q (λe=>by have:=(m q d).1;omega)),λq d e=>?_,h.n2,λq d e=>?_,?_,λq h1 h2=>?_⟩
 ·have e2:=Zh e;subst e2;rcases z with h1|h1
  ·exact h.n1 g d h1
  have:=(l g d).2;omega
 ·have e2:=Zh d;subst e2;rcases z with h1|h1
  ·exact h.n3 g h1 e
  have:=(m g e).2;omega
 ·exact(a.b.grown y (by have:=a.b.size;omega) (λq d=>by have:=(j q d).1;omega)).setCell (p:=(a_ mb 2)) (Zg _) _
 rw[i q h2,y.block q (by omega) (λe=>by have:=(j q e.symm).1;omega)];exact a.k q h1 h2
theorem MS.put3 (h:MS mb W0 vc vl vn lc ll ln w') (J:mb<W0.heap.size) (H:OwnL W0.heap.size (sL g n cap) ln' w5) (y:(w'.alloc ob).grownBy w5 vn.ownBlock) (z:vn.ownBlock=some g\/g=(w'.alloc ob).heap.size):
  w5.cell? (a_ mb 3)=some vn/\w5.frozen? (a_ mb 3)=false/\MS mb W0 vc vl (sL g n cap) lc ll ln' (w5.setCell (a_ mb 3) (sL g n cap)):=by
 have x:=box_bel w' ob;have hz:(w'.alloc ob).heap.size=w'.heap.size+1:=by simp
 have a:=h.below x J;have j:=h.on.blk;have l:=h.oc.blk;have m:=h.ol.blk;have hs:=h.b.size;have f:=a.c.block (y.block _ a.c.lt (λe=>by have:=(j _ e.symm).1;omega));obtain⟨c1,c2⟩:=f 3 _ rfl;have i:∀q,q≠mb->(w5.setCell (a_ mb 3) (sL g n cap)).heap[q]?=w5.heap[q]?:=λq d=>Zq w5 (a_ mb 3) _ q (λe=>d e)
 have o:=(H.blk g rfl).1;refine⟨c1,c2,f.set 3 (by simp) _,(a.oc.grown y (λq d e=>h.n2 q d e)).keep (λq d=>i q (λe=>by have:=(l q d).1;omega)),(a.ol.grown y (λq d e=>h.n3 q d e)).keep (λq d=>i q (λe=>by have:=(m q d).1;omega)),H.keep (λq d=>i q (by cases d;show g≠mb;omega)),h.n1,λq d e=>?_,λq d e=>?_,?_,λq h1 h2=>?_⟩
 ·have e2:=Zh e;subst e2;rcases z with h1|h1
  ·exact h.n2 g d h1
  have:=(l g d).2;omega
 ·have e2:=Zh e;subst e2;rcases z with h1|h1
  ·exact h.n3 g d h1
  have:=(m g d).2;omega
 ·exact(a.b.grown y (by have:=a.b.size;omega) (λq d=>by have:=(j q d).1;omega)).setCell (p:=(a_ mb 3)) (Zg _) _
 rw[i q h2,y.block q (by omega) (λe=>by have:=(j q e.symm).1;omega)];exact a.k q h1 h2
def TL (E:Nat->Nat->Bool) (kf:Nat->Int) (i:Nat):List Int:=(List.range i).map λb=>idxI E (kf b).toNat
theorem Gc (E:Nat->N_) (kf:Nat->Int) (i:Nat):TL E kf (i+1)=TL E kf i++[idxI E (kf i).toNat]:=by simp[TL,ZT]
theorem Uh (E:Nat->N_) (kf:Nat->Int) (i:Nat):(TL E kf i).length=i:=by simp[TL]
variable {md:Region.Mode}
theorem Tp {P:Program}{S:World->Prop} (i k:Nat) {oi ok:Oper}{vi vk:Value}{listed L:Array Bool}{a A:Act}{w w':World}
  (Y:ops[i]?=some oi) (Z:ops[k]?=some ok) (H:oi.guard=none) (J:ok.guard=none) (r0:Region.ready md ops listed=[i,k]) (r1:Region.ready md ops (listed.setIfInBounds i true)=[k]) (r2:Region.ready md ops (listed.setIfInBounds k true)=[i])
  (xi:(execOp a.eval oi).run P w=.ok (.value vi) w) (yi:(execOp (a.put ok.dst vk).eval oi).run P w'=.ok (.value vi) w') (xk:(execOp a.eval ok).run P w=.ok (.value vk) w') (yk:(execOp (a.put oi.dst vi).eval ok).run P w=.ok (.value vk) w')
  (l1:(listed.setIfInBounds i true).setIfInBounds k true=L) (l2:(listed.setIfInBounds k true).setIfInBounds i true=L) (f1:(a.put oi.dst vi).put ok.dst vk=A) (f2:(a.put ok.dst vk).put oi.dst vi=A) (hS:S w) (y:S w') (z:wpAnyH P md ops Q S fuel L A w'):wpAnyH P md ops Q S (fuel+2) listed a w:=by
 refine wpAnyH_all r0 (by simp) (λq b=>?_);rcases ZR.1 b with rfl|b
 ·refine Xh Y (by simp[Region.wanted,H]) xi ⟨hS,wpAnyH_all r1 (by simp) (λq b=>?_)⟩;rw[ZC.1 b];refine Xh Z (by simp[Region.wanted,J]) yk ⟨y,?_⟩;rw[l1,f1];exact z
 rw[ZC.1 b];refine Xh Z (by simp[Region.wanted,J]) xk ⟨y,wpAnyH_all r2 (by simp) (λq b=>?_)⟩;rw[ZC.1 b];refine Xh Y (by simp[Region.wanted,H]) yi ⟨y,?_⟩;rw[l2,f2];exact z
theorem IL.heap {f:Nat->Int} (h:IL ad f n w) (y:∀k,k<w.heap.size->(∃o,ad=some (a_ k o))->w'.heap[k]?=w.heap[k]?):IL ad f n w':=λi g=>by
 obtain⟨b,c,e,d⟩:=h i g;refine⟨b,c,e,?_⟩;rw[World.cell?_of_block (w:=w) (a:=(a_ b (c+i))) (y b (Ze w _ d) ⟨c,e⟩)];exact d
theorem UG {K:Act->World->Prop} (s x:Operand)
  (ho:o.op=.call { callee:=.builtin .append,args:=#[s,x],argTypes:=#[23,23] }) (base:Nat)
  (v:Value) (l:List Int) (hs:a.eval s=v) (hown:OwnL base v l w) (hn:l.length<=1000000)
  (B:Nat) (t:Int) (hx:a.eval x=sL B 1 1) (hnews:w.cell? (a_ B 0)=some (.int .i64 t)) (hbase:base<=w.heap.size) (H:Nat) (hH:w.heap.size=H)
  (h:∀g cap w',OwnL base (sL g (l.length+1) cap) (l++[t]) w'->w.grownBy w' v.ownBlock->(v.ownBlock=some g\/g=H)->g<w'.heap.size->K (a.put o.dst (sL g (l.length+1) cap)) w'):Oper.wp Tryz.prog o a w K Q:=by
 obtain⟨i,k,c,d,e⟩:=Wi;refine wp_append_lies w s x 23 ho base 3 i (.int .i64 0) 1 8 u_f k c d e rfl (by omega) v l.length (ints l) hs hown (a_ B 0) 1 1 [.int .i64 t] hx rfl (λj u b=>?_) (by simp[Value.oneCell']) (by omega) (by unfold maxLen;omega) (by omega) hbase H hH ?_
 ·rw[Addr.add_lit,Zn];cases j with
  |zero=>simp at b;subst b;exact hnews
  |succ j=>simp at b
 intro g cap w' h1 h2 h3 f;refine h g cap w' ?_ h2 h3 f;unfold OwnL;rw[ints_append,Zl];exact h1
def U7 (A:Aut) (E:Nat->Nat->Bool) (i:Nat):List Int:=(List.range i).map λs=>A.vd ((reps E A.N).getD s 0)
theorem GA (A:Aut) (E:Nat->N_) (i:Nat):U7 A E (i+1)=U7 A E i++[A.vd ((reps E A.N).getD i 0)]:=by simp[U7,ZT]
theorem Uo (A:Aut) (E:Nat->N_) (i:Nat):(U7 A E i).length=i:=by simp[U7]
def Us (rw:Nat->Nat->Int) (fs:List Nat) (s c:Nat):List Int:=(List.range c).map λj=>rw s (fs.getD j 0)
def WQ (rw:Nat->Nat->Int) (fs:List Nat) (i:Nat):List Int:=(List.range i).flatMap λs=>Us rw fs s fs.length
theorem Mt (rw:Nat->Nat->Int) (y:List Nat) (s c:Nat):Us rw y s (c+1)=Us rw y s c++[rw s (y.getD c 0)]:=by simp[Us,ZT]
theorem Qr (rw:Nat->Nat->Int) (y:List Nat) (i:Nat):WQ rw y (i+1)=WQ rw y i++Us rw y i y.length:=by simp[WQ,ZT]
theorem Oa (rw:Nat->Nat->Int) (y:List Nat) (s c:Nat):(Us rw y s c).length=c:=by simp[Us]
theorem Ur (rw:Nat->Nat->Int) (y:List Nat) (i:Nat):(WQ rw y i).length=i*y.length:=by
 induction i with
 |zero=>simp[WQ]
 |succ i ih=>rw[Qr,Zl,ih,Oa,Nat.succ_mul]
def Nk (A:Aut) (E:Nat->Nat->Bool) (kf:Nat->Int) (w:World) (en:Ending) (w':World):Prop:=
 ∃vc vl vn,en=.returned (.agg #[.int .i64 0,vc,vl,vn])/\OwnL w.heap.size vc (TL (Cl (Yz A E) (cnt E A.N)) kf 256) w'/\OwnL w.heap.size vl (U7 A E (cnt E A.N)) w'/\OwnL w.heap.size vn (WQ (Yz A E) (reps (Cl (Yz A E) (cnt E A.N)) A.K) (cnt E A.N)) w' /\
  (∀k,vc.ownBlock=some k->vl.ownBlock≠some k)/\(∀k,vc.ownBlock=some k->vn.ownBlock≠some k)/\(∀k,vl.ownBlock=some k->vn.ownBlock≠some k)/\Below w.heap.size w w'
theorem MN (gb:Nat) (A:Aut) (ta:Option Addr) (tc:Nat) (sa:Option Addr) (sc:Nat) (rl:Nat->N_) (kb:Nat) (kf:Nat->Int) (E:Nat->N_) (b1 b2:Nat) (vo vf:Value) (w:World) (hA:Aut.Small A) (hr:∀s k,s<A.N->k<A.K->-1<=A.to s k/\A.to s k<A.N) (hG:Gr gb A ta tc (.slice sa A.N sc) w) (hS:SR sa rl A.N w) (hv:∀i,i<A.N->A.vd i=To (rl i) 8 0) (cD:w.rangeAt kb 0 (kl kf)) (cE:∀b,b<256->0<=kf b/\kf b<A.K) (ho:OwnL b1 vo (Va E A.N) w) (hf:OwnL b2 vf (YS E A.N) w):
  Cp 68 #[pT gb,pT kb,.agg #[vo,vf]] w (Nk A E kf w):=by
 have hz:=WV;have aR:=hA.k;have b3:=cnt_le E A.N;have hn:=hA.n;have h1:(w.alloc (.cells #[vo,vf] 150)).heap.size=w.heap.size+1:=by simp
 obtain⟨Wa,ae⟩:=nam (w.alloc (.cells #[vo,vf] 150));obtain⟨Wb,af⟩:=nam (Wa.alloc (.cells #[I6 0,sN,sN,sN] 25));obtain⟨W1,ac⟩:=nam (Wb.alloc (.cells #[I6 0,sN,sN,sN] 25));have za:Wa.heap.size=w.heap.size+1:=by rw[ae];simp
 have zb:Wb.heap.size=w.heap.size+2:=by rw[af];simp[za]
 have z1:W1.heap.size=w.heap.size+3:=by rw[ac];simp[zb]
 have Ta:TC w.heap.size [vo,vf] Wa:=by rw[ae];exact TC.boxed w [vo,vf] _
 have Tb:TC (w.heap.size+1) [I6 0,sN,sN,sN] Wb:=by rw[af,<-za];exact TC.boxed Wa [I6 0,sN,sN,sN] _
 have Tc:TC (w.heap.size+2) [I6 0,sN,sN,sN] W1:=by rw[ac,<-zb];exact TC.boxed Wb [I6 0,sN,sN,sN] _
 have xa:Bl w Wa:=by rw[ae];exact box_bel _ _
 have xb:Bl Wa Wb:=by rw[af];exact box_bel _ _
 have xc:Bl Wb W1:=by rw[ac];exact box_bel _ _
 have B1:Bl w W1:=(xa.trans (xb.mono (by omega))).trans (xc.mono (by omega));have U1:=(Ta.block (xb.block _ (by omega))).block (xc.block _ (by omega));have U2:=Tb.block (xc.block _ (by omega));have a5:=Jk gb A ta tc (.slice sa A.N sc) E b1 b2 vo vf W1 hA hr (hG.below B1) (ho.below B1) (hf.below B1);have W:Hid (Cp 132 #[pT gb,.agg #[vo,vf]] W1 λe w'=>∃v,e=.returned v/\OwnL W1.heap.size v (Xr A.K (Yz A E) (cnt E A.N*A.K)) w'/\Bl W1 w'):=a5;have a8:Hid (W1=((w.alloc (.cells #[vo,vf] 150)).alloc (.cells #[I6 0,sN,sN,sN] 25)).alloc (.cells #[I6 0,sN,sN,sN] 25)):=by show _=_;rw[ac,af,ae]
 have HT:=hyd5 U1 U2 Tc B1 z1;have HG:Hid (∀w',Bl w w'->Gr gb A ta tc (.slice sa A.N sc) w'):=λw' h=>hG.below h
 have bK:Hid (∀w',Bl w w'->SR sa rl A.N w'):=λw' h=>hS.below h
 have bI:Hid (∀w',Bl w w'->w'.rangeAt kb 0 (kl kf)):=λw' h j v hv=>by
  have:=cD j v hv;rw[h.cell (p:=(a_ kb (0+j))) (Ze w _ this)];exact this
 have bd:=hyd cE;have HF:Hid (∀w',Bl w w'->OwnL b2 vf (YS E A.N) w'):=λw' h=>hf.below h
 have Hv:=hyd hv;have b4:=Ze w _ hG.c0;obtain⟨g,aJ⟩:=nam (cnt E A.N);have aj:=hyd aJ;rw[<-aJ]at W b3;clear hr hG hS cD cE ho hf hv h1 ae af ac za zb z1 Ta Tb Tc xa xb xc B1 U1 U2 a5 aJ;go_enter Tryz.func68,Tryz.ntmps68;go_wp2_with fail;rw[<-a8.out];refine W.out.mono ?_;rintro en w2 ⟨v,rfl,aL,T⟩;obtain⟨ra,rc,ev,av⟩:=aL.il;rw[Ot]at ev av;subst ev;obtain⟨t1,t2,t3,t4,t5⟩:=HT.out;have B2:Bl w w2:=t4.trans (T.mono (by omega));have c0:=(HG.out w2 B2).c0;have aB:=hyd (MH ra rc A.K g (Yz A E) w2 aR (by omega) av);have a4:Hid (∀k o,ra=some (a_ k o)->w.heap.size+3<=k):=λk o e=>by
  have:=(aL.blk k (by rw[e];rfl)).1;omega
 have aY:=hyd av;have a7:Hid (TC w.heap.size [vo,vf] w2/\TC (w.heap.size+1) [I6 0,sN,sN,sN] w2/\TC (w.heap.size+2) [I6 0,sN,sN,sN] w2/\Bl w w2/\w.heap.size+3<=w2.heap.size):=⟨t1.block (T.block _ (by omega)),t2.block (T.block _ (by omega)),t3.block (T.block _ (by omega)),B2,by have:=T.size;omega⟩;obtain⟨M,hM⟩:=nam (g*A.K);have HM:=hyd hM;rw[<-hM]at aB;clear t1 t2 t3 t4 t5 B2 av aL T HT W a8;rw[<-hM];clear hM;go_wp2_with fail;refine aB.out.mono ?_;rintro en w3 ⟨cC,cB,rfl,z,aH,J⟩;obtain⟨oa,oc,eo,m⟩:=z.il;rw[Xo]at eo m;obtain⟨fa,fc,ef,l⟩:=aH.il;rw[YJ]at ef l;subst eo;subst ef;obtain⟨t1,t2,t3,t4,t5⟩:=a7.out;obtain⟨CN,aG⟩:=nam (cnt (Cl (Yz A E) g) A.K);have bH:=hyd aG;have ch:CN<=256:=by have:=cnt_le (Cl (Yz A E) g) A.K;omega
 rw[<-aG]at l ⊢;have b8:=J.size;have B3:Bl w w3:=t4.trans (J.mono (by omega));obtain⟨mb,ar⟩:=nam (w.heap.size+2);have aC:=hyd ar;have G:mb<w3.heap.size:=by omega
 have M0:MS mb w3 (sN) (sN) (sN) [] [] [] w3:=by
  rw[ar];exact⟨t3.block (J.block _ (by omega)),OwnL.nil _ _,OwnL.nil _ _,OwnL.nil _ _,λk hk=>(by cases hk),λk hk=>(by cases hk),λk hk=>(by cases hk),Zk _ _,λ_ _ _=>rfl⟩
 have u1:=t1.block (J.block _ (by omega));have u2:=t2.block (J.block _ (by omega));have r:=aY.out.below J;have aU:=bI.out w3 B3;have B:Hid (∀(vc vl vn:Value) (lc ll ln:List Int) (w':World),MS mb w3 vc vl vn lc ll ln w'->Bl w w'/\TC w.heap.size [vo,vf] w'/\TC (w.heap.size+1) [I6 0,sN,sN,sN] w'/\IL oa (λi=>(Va (Cl (Yz A E) g) A.K).getD i 0) A.K w'/\IL fa (λi=>(YS (Cl (Yz A E) g) A.K).getD i 0) CN w'/\IL ra (λi=>(Xr A.K (Yz A E) (g*A.K)).getD i 0) (g*A.K) w'):=λvc vl vn lc ll ln w' h=>by
  have aT:∀(ad:Option Addr) (f:Nat->Int) (n:Nat),IL ad f n w3->(∀k o,ad=some (a_ k o)->k≠mb)->IL ad f n w':=λad f n hI hk=>hI.heap (λk h1 ⟨o,e⟩=>h.k k h1 (hk k o e))
  refine⟨B3.trans (h.b.mono (by omega)),u1.block (h.k _ (by omega) (by omega)),u2.block (h.k _ (by omega) (by omega)),aT _ _ _ m ?_,aT _ _ _ l ?_,aT _ _ _ r ?_⟩
  ·intro k o e;have:=(z.blk k (by rw[e];rfl)).1;omega
  ·intro k o e;have:=(aH.blk k (by rw[e];rfl)).1;omega
  intro k o e;have:=a4.out k o e;omega
 have aZ:=hyd r;have bj:Hid (w.heap.size<=w3.heap.size):=by show _<=_;omega
 have a0:=hyd M0;obtain⟨L4,ap⟩:=nam (kl kf);have bJ:=hyd ap;have aw:Hid (L4.length=256):=by show _=_;rw[ap];exact E2 _
 rw[<-ap]at aU;rw[<-ar];clear t1 t2 t3 t4 t5 z aH J m l B3 ar u1 u2 r ap aG M0 a7 aB aY b8 c0;go_wp2_with (first|(with_reducible refine gld 140 ?_;refine Zb rfl 140 _ rfl kb 0 rfl L4 _ aU Tryz.underlying140 rfl (by rw[aw.out];exact DG) ?_));rw[bJ.out];clear aU aw
 go_loopw [34] (λx w'=>∃(i:Nat) (vc:Value),i<=256/\x=I6 i/\MS mb w3 vc (sN) (sN) (TL (Cl (Yz A E) g) kf i) [] [] w') (λx _=>256-(intOf x).toNat)
 ·exact⟨0,_,by omega,rfl,a0⟩
 clear a0;obtain⟨i,vc,hi,rfl,Z⟩:=hrel;by_cases U:i<256
 ·have bv:(i:Int)<256:=by omega
  obtain⟨κ,hκ⟩:=ZA (bd i U).1;have au:κ<A.K:=by have:=(bd i U).2;omega
  have cj:(κ:Int)<(A.K:Int):=by omega
  obtain⟨I,T0,T1,m,l,r⟩:=B.out _ _ _ _ _ _ wr Z;obtain⟨gx,ox,bV,cx⟩:=m κ au;subst bV;obtain⟨x,hx⟩:=nam (idxI (Cl (Yz A E) g) (kf i).toNat);have F:(Va (Cl (Yz A E) g) A.K).getD κ 0=x:=by
   rw[hx,hκ,ZE];simp[Va,Zf,au]
  simp only[F]at cx;have bQ:Hid (TL (Cl (Yz A E) g) kf (i+1)=TL (Cl (Yz A E) g) kf i++[x]):=by show _=_;rw[Gc,hx]
  obtain⟨ca,ax,am,_⟩:=Z.oc.il;rw[Uh]at am;have aD:=hyd am;have cm:=(Z.c 1 _ rfl).1;rw[am]at cm;have HZ:=hyd Z;have Hκ:=hyd hκ;clear Z hx F am l r m T0 T1 I hκ;go_wp2_with (first|(with_reducible show wpList _ _ _ (⟨_,Op.index 140 _ _,_,_,_,_⟩::_) _ _;refine Jw rfl _ _ rfl kf rfl i rfl U ?_;rw[Hκ.out]));refine wp_region_any (by kernel_rfl) ?_;change wpAny _ _ _ _ 10 _ _ wr.drew;refine tJ 0 ?_
  refine tJ 2 ?_
  refine tJ 3 ?_
  refine tJ 4 ?_
  obtain⟨W3,d⟩:=nam (wr.drew.alloc (.cells #[I6 x] 3));have q4:=cm;have q5:=cx;have Zd:=HZ.out.below (Zk wr.heap.size wr).drew G;have x3:Below wr.drew.heap.size wr.drew W3:=by rw[d];exact box_bel wr.drew _
  have aV:W3.cell? (a_ mb 1)=some (.slice ca i ax):=by rw[<-aD.out];exact((Zd.below x3 G).c 1 _ rfl).1
  refine SG (fuel:=3) 1 5 6 (o4:=?o4) (o5:=?o5) (o6:=?o6) (v4:=.slice ca i ax) (v5:=I6 x) (v6:=.slice (some (a_ wr.drew.heap.size 0)) 1 1) (L:=#[true,true,true,true,true,true,true,false,false,false]) (A:=?A) (w':=W3)
   ?h4 ?h5 ?h6 ?g4 ?g5 ?g6 ?r0 ?r1 ?r2 ?r3 ?r4 ?r5 ?x4 ?y4 ?z4 ?x5 ?y5 ?x6 ?y6 ?z6 ?l1 ?l2 ?l3 ?f1 ?f2 ?f3 ?fin
  case h4=>simp only[gel];rfl
  case h5=>simp only[gel];rfl
  case h6=>simp only[gel];rfl
  case g4=>rfl
  case g5=>rfl
  case g6=>rfl
  case r0=>kernel_rfl
  case r1=>kernel_rfl
  case r2=>kernel_rfl
  case r3=>kernel_rfl
  case r4=>kernel_rfl
  case r5=>kernel_rfl
  case x4=>go_simp
  case y4=>simp only[psm];go_simp
  case z4=>clear d;simp only[psm];go_simp
  case x5=>go_simp
  case y5=>simp only[psm];go_simp
  case x6=>rw[d];exact Xs _ rfl x rfl
  case y6=>rw[d];exact Xs _ rfl x rfl
  case z6=>rw[d];exact Xs _ rfl x rfl
  case l1=>kernel_rfl
  case l2=>kernel_rfl
  case l3=>kernel_rfl
  case f1=>simp only[psm];rfl
  case f2=>simp only[psm]
  case f3=>simp only[psm]
  refine Wn 7 rfl (by kernel_rfl) ?_;simp only[ZL,Zw];have H:W3.cell? (a_ wr.drew.heap.size 0)=some (I6 x):=by rw[d,Zm];rfl
  have Z3:=Zd.below x3 G;have z:=Z3.oc;have D:=Z3.b.size;refine Bm.wpList_append_int (by rfl) _ _ (by rfl) w3.heap.size vc (TL (Cl (Yz A E) g) kf i) (by rw[aD.out];rfl) z (by rw[Uh];omega) wr.drew.heap.size x (by rfl) H D _ rfl ?_;rw[Uh];intro g5 t w5 O a u aS;rw[<-bQ.out]at O;rw[d]at a u;obtain⟨p1,p2,Z5⟩:=Zd.put1 G O a u;obtain⟨W6,Q⟩:=nam (w5.setCell (a_ mb 1) (sL g5 (i+1) t));rw[<-Q]at Z5;have ak:=hyd Q;rw[aD.out]at p1;clear Q O a u aS Z3 z D H Zd x3 q4 q5 aV d cm cx HZ;go_wp2_with fail
  (try simp only[Act.put])
  rw[<-ak.out];go_roundw
  ·exact⟨i+1,_,by omega,by go_num,Z5⟩
  simp[intOf];omega
 have⟨hge,h256⟩:¬(i:Int)<256/\i=256:=by omega
 subst h256;obtain⟨I,T0,T1,_,_,_⟩:=B.out _ _ _ _ _ _ wr Z;obtain⟨va,co,an,ai⟩:=(HF.out wr I).il;rw[YJ,<-aj.out]at an;have bR:=hyd an;have cv:=(T0 1 _ rfl).1;rw[an]at cv;obtain⟨C,bt⟩:=nam (reps (Cl (Yz A E) g) A.K);have al:=hyd bt;obtain⟨R,aa⟩:=nam (TL (Cl (Yz A E) g) kf 256);have aW:=hyd aa;rw[<-aa]at Z;have a9:=hyd Z;have bF:(g:Int)<=200:=by omega
 clear Z I T0 T1 ai an bt aa;go_wp2_with fail
 go_loopw [50] (λx w'=>∃(i:Nat) (vl vn:Value),i<=g/\x=I6 i/\MS mb w3 vc vl vn R (U7 A E i) (WQ (Yz A E) C i) w') (λx _=>g-(intOf x).toNat)
 ·exact⟨0,_,_,by omega,rfl,a9⟩
 clear a9 cv;obtain⟨i,vl,vn,hi,rfl,Z⟩:=hrel;obtain⟨I,T0,T1,m,l,r⟩:=B.out _ _ _ _ _ _ wr Z;by_cases U:i<g
 ·have bv:(i:Int)<g:=by omega
  have b7:(reps E A.N).length=g:=by rw[aj.out];rfl
  obtain⟨σ,hσ⟩:∃σ,(reps E A.N)[i]?=some σ:=⟨(reps E A.N)[i]'(by omega),Zd _⟩;obtain⟨bC,_,_⟩:=reps_mem hσ;obtain⟨cc,cd,X,ai⟩:=(HF.out wr I).il;rw[YJ,<-aj.out]at X ai;have aF:cc=va:=by have:=bR.out;rw[X]at this;exact(Value.slice.inj this).1
  subst aF;obtain⟨gv,ov,aF,cv⟩:=ai i U;subst aF;have F:(YS E A.N).getD i 0=(σ:Int):=by simp[YS,Zf,hσ]
  simp only[F]at cv;obtain⟨sb,so,bX,bA⟩:=bK.out wr I σ bC;subst bX;have bT:=(HG wr I).c1;have cn:(σ:Int)<(A.N:Int):=by omega
  obtain⟨y,hy⟩:=nam (A.vd σ);have aX:Hid (Cp 130 #[.pointer (some (a_ sb (so+σ*104)))] wr λe w'=>e=.returned (I6 y)/\w'=wr):=by
   have:=Qa sb (so+σ*104) (rl σ) wr bA;rw[<-Hv.out σ bC,<-hy]at this;exact this
  have be:Hid (U7 A E (i+1)=U7 A E i++[y]):=by show _=_;rw[GA,hy,Zf,hσ];rfl
  obtain⟨b9,bE,Y,_⟩:=Z.ol.il;rw[Uo]at Y;have bi:=hyd Y;have cm:=(Z.c 2 _ rfl).1;rw[Y]at cm;have hx:=box_bel wr (.cells #[I6 y] 3);have aK:=Z.ol.below hx;have H:(wr.alloc (.cells #[I6 y] 3)).cell? (a_ wr.heap.size 0)=some (I6 y):=by rw[Zm];rfl
  have D:w3.heap.size<=(wr.alloc (.cells #[I6 y] 3)).heap.size:=by have:=Z.b.size;have:=hx.size;omega
  have HZ:=hyd Z;have b6:(U7 A E i).length<=1000000:=by rw[Uo];omega
  rw[Y]at aK;clear Z I T0 T1 m l r b7 hσ X ai F bA hy Y hx;go_wp2_with fail;refine aX.out.mono ?_;rintro en ce ⟨rfl,rfl⟩;go_wp2_with (first|(at_builtin;refine Bm.wpList_append_int (by rfl) _ _ (by rfl) w3.heap.size (.slice b9 i bE) (U7 A E i) (by rfl) aK b6 ce.heap.size y (by rfl) H D _ rfl ?_;rw[Uo];intro g5 t w5 O a u aS;refine X9.out ?_));refine⟨?_⟩
  (try simp only[psm])
  rw[<-bi.out]at a u;rw[<-be.out]at O;obtain⟨p1,p2,Z5⟩:=HZ.out.put2 G O a u;obtain⟨W6,Q⟩:=nam (w5.setCell (a_ mb 2) (sL g5 (i+1) t));rw[<-Q]at Z5;have ak:=hyd Q;rw[bi.out]at p1;have bb:Hid (MS mb w3 vc (sL g5 (i+1) t) vn R (U7 A E (i+1)) (WQ (Yz A E) C i++Us (Yz A E) C i 0) W6):=by
   show MS _ _ _ _ _ _ _ _ _;rw[show Us (Yz A E) C i 0=[] from rfl,List.append_nil];exact Z5
  clear Q O a u aS aK H D Z5 HZ cm cv bT aX;go_wp2_with fail;rw[<-ak.out];clear ak p1 p2
  go_loopw [70] (λx w'=>∃(c:Nat) (vn:Value),c<=CN/\x=I6 c/\MS mb w3 vc (sL g5 (i+1) t) vn R (U7 A E (i+1)) (WQ (Yz A E) C i++Us (Yz A E) C i c) w') (λx _=>CN-(intOf x).toNat)
  ·exact⟨0,_,by omega,rfl,bb⟩
  clear bb;obtain⟨c,vn,hc,rfl,Z⟩:=hrel;obtain⟨I,T0,T1,m,l,r⟩:=B.out _ _ _ _ _ _ wr Z;have aq:C.length=CN:=by rw[al.out,bH.out];rfl
  by_cases b0:c<CN
  ·have cg:(c:Int)<CN:=by omega
   obtain⟨κ,hκ⟩:∃κ,C[c]?=some κ:=⟨C[c]'(by omega),Zd _⟩;have au:κ<A.K:=by have h:=hκ;rw[al.out]at h;exact(reps_mem h).1
   obtain⟨gf,cy,bU,cf⟩:=l c b0;subst bU;have F:(YS (Cl (Yz A E) g) A.K).getD c 0=(κ:Int):=by
    rw[YS,<-al.out];simp[Zf,hκ]
   simp only[F]at cf;obtain⟨p,hp⟩:=nam (i*A.K);have ia:(i:Int)*(A.K:Int)=(p:Int):=by rw[hp];simp
   obtain⟨q,hq⟩:=nam (p+κ);have iq:(p:Int)+(κ:Int)=(q:Int):=by omega
   have V:q<g*A.K:=by
    have:(i+1)*A.K<=g*A.K:=ZQ _ U;rw[Nat.add_mul]at this;omega
   obtain⟨rb,ro,bW,cr⟩:=r q V;subst bW;obtain⟨x,hx⟩:=nam (Yz A E i κ);have aQ:(Xr A.K (Yz A E) (g*A.K)).getD q 0=x:=by
    have hd:=Qg (s:=i) au;rw[hq,hp]at V ⊢;simp[Xr,Zf,V,hd.1,hd.2,hx]
   simp only[aQ]at cr;have ci:(q:Int)<M:=by have:=HM.out;omega
   have ct:(p:Int)<=51200:=by
    have h1:p<=200*256:=by rw[hp];exact Nat.mul_le_mul (by omega) aR
    omega
   have cq:(M:Int)<=51200:=by
    have h1:M<=200*256:=by rw[HM.out];exact Nat.mul_le_mul (by omega) aR
    omega
   have cu:IntKind.i64.wrap (p:Int)=(p:Int):=by simp[IntKind.wrap,IntKind.bits,IntKind.signed];omega
   have cw:IntKind.i64.wrap (q:Int)=(q:Int):=by simp[IntKind.wrap,IntKind.bits,IntKind.signed];omega
   have bS:=(HG wr I).c0;have bf:Hid (WQ (Yz A E) C i++Us (Yz A E) C i (c+1)=(WQ (Yz A E) C i++Us (Yz A E) C i c)++[x]):=by
    show _=_;rw[Mt,Zs,Zf,hκ,hx];rfl
   obtain⟨LN,aI⟩:=nam (WQ (Yz A E) C i++Us (Yz A E) C i c);rw[<-aI]at Z bf;have bu:LN.length<=1000000:=by
    rw[aI,Zl,Ur,Oa,aq];have h1:i*CN<=200*256:=Nat.mul_le_mul (by omega) (by omega);omega
   obtain⟨na,az,ao,_⟩:=Z.on.il;obtain⟨aA,bx⟩:=nam LN.length;rw[<-bx]at ao;have aE:=hyd ao;have cm:=(Z.c 3 _ rfl).1;rw[ao]at cm;have HZ:=hyd Z;have bO:Hid (gb<w.heap.size/\gb≠mb):=⟨b4,by have:=aC.out;omega⟩;have ay:rb<w3.heap.size/\rb≠mb:=by
    have h1:=a4.out rb ro rfl;refine⟨?_,by have:=aC.out;omega⟩;have h2:=aZ.out q V;obtain⟨b',o',e',c'⟩:=h2;cases e';exact Ze w3 _ c'
   have bP:=hyd ay;have a6:Hid (∀(vn':Value) (ln':List Int) (w':World),MS mb w3 vc (sL g5 (i+1) t) vn' R (U7 A E (i+1)) ln' w'->w'.cell? (a_ gb 0)=some (I6 A.K)/\w'.cell? (a_ rb (ro+q))=some (I6 x)):=λvn' ln' w' h=>by
    obtain⟨bG,_,_,_,_,bD⟩:=B.out _ _ _ _ _ _ w' h;obtain⟨cz,cA,e',c'⟩:=bD q V;cases e';simp only[aQ]at c';exact⟨(HG w' bG).c0,c'⟩
   clear Z I T0 T1 m l r F aQ hx hp hq V aI ao hκ aq ay bx;go_wp2_with fail;have br:wr.drew.cell? (a_ gb 0)=some (I6 A.K)/\wr.drew.cell? (a_ rb (ro+q))=some (I6 x):=⟨bS,cr⟩;refine wp_region_held_drew (S:=λw'=>w'.cell? (a_ gb 0)=some (I6 A.K)/\w'.cell? (a_ rb (ro+q))=some (I6 x)) (by kernel_rfl) br (λhHeld=>?_);refine tQ 0 ?_
   refine tQ 2 ?_
   refine tQ 3 ?_
   refine tQ 4 ?_
   refine tQ 5 ?_
   refine tQ 6 ?_
   refine tQ 7 ?_
   refine tQ 8 ?_
   refine tQ 9 ?_
   refine tQ 10 ?_
   refine tQ 11 ?_
   refine tQ 12 ?_
   obtain⟨W3,d⟩:=nam (wr.drew.alloc (.cells #[I6 x] 3));have q4:=cm;have Zd:=HZ.out.below (Zk wr.heap.size wr).drew G;have x3:Below wr.drew.heap.size wr.drew W3:=by rw[d];exact box_bel wr.drew _
   have Z3:=Zd.below x3 G;have aV:W3.cell? (a_ mb 3)=some (.slice na aA az):=by rw[<-aE.out];exact(Z3.c 3 _ rfl).1
   have aN:=a6.out _ _ W3 Z3;refine Tp (fuel:=3) 1 13 (oi:=?Jp1) (ok:=?Jp13) (vi:=.slice na aA az) (vk:=.slice (some (a_ wr.drew.heap.size 0)) 1 1) (L:=#[true,true,true,true,true,true,true,true,true,true,true,true,true,true,false,false,false]) (A:=?JA) (w':=W3)
    ?Jh1 ?Jh13 ?Jg1 ?Jg13 ?Jr0 ?Jr1 ?Jr2 ?Jxi ?Jyi ?Jxk ?Jyk ?Jl1 ?Jl2 ?Jf1 ?Jf2 ?JhS ?JhS' ?Jfin
   case Jh1=>simp only[gel];rfl
   case Jh13=>simp only[gel];rfl
   case Jg1=>rfl
   case Jg13=>rfl
   case Jr0=>kernel_rfl
   case Jr1=>kernel_rfl
   case Jr2=>kernel_rfl
   case Jxi=>go_simp
   case Jyi=>clear d;simp only[psm];go_simp
   case Jxk=>rw[d];exact Xs _ rfl x rfl
   case Jyk=>rw[d];exact Xs _ rfl x rfl
   case Jl1=>kernel_rfl
   case Jl2=>kernel_rfl
   case Jf1=>simp only[psm];rfl
   case Jf2=>simp only[psm]
   case JhS=>exact hHeld
   case JhS'=>exact aN
   have H:W3.cell? (a_ wr.drew.heap.size 0)=some (I6 x):=by rw[d,Zm];rfl
   have z:=Z3.on;have D:=Z3.b.size;refine wpAnyH_ready (rs:=[14]) (by kernel_rfl) (by simp) ?_;refine AllReadyH.cons (o:=?oH14) ?hiH14 (λK hK=>?_) AllReadyH.nil
   case hiH14=>simp only[gel];rfl
   rw[if_pos (by rfl)];refine UG _ _ rfl w3.heap.size vn LN (by rw[aE.out];rfl) z bu wr.drew.heap.size x rfl H D _ rfl ?_;intro g6 bm w6 aM a ah b5;rw[<-bf.out]at aM;rw[d]at a ah;obtain⟨p1,p2,Z6⟩:=Zd.put3 G aM a ah;have bY:w6.cell? (a_ gb 0)=some (I6 A.K)/\w6.cell? (a_ rb (ro+q))=some (I6 x):=by
    have bB:=Zd.on.blk;obtain⟨y1,y2⟩:=aN;rw[d]at y1 y2;have z1:=bO.out.1;have z2:=bP.out.1;have zw:=bj.out;exact⟨by rw[a.cell_far (a_ gb 0) (Ze _ _ y1) (λe=>by have:=(bB _ e.symm).1;simp only at this;omega)];exact y1,by rw[a.cell_far (a_ rb (ro+q)) (Ze _ _ y2) (λe=>by have:=(bB _ e.symm).1;simp only at this;omega)];exact y2⟩
   refine hK.out _ _ bY (λhHeld=>?_);clear hK K;obtain⟨W7,aO⟩:=nam (w6.setCell (a_ mb 3) (sL g6 (LN.length+1) bm));rw[<-aO]at Z6;have bL:=hyd aO;have bZ:=a6.out _ _ W7 Z6;rw[aE.out]at p1
   (try simp only[psm])
   clear aO aM a ah b5 Z3 z D H Zd x3 q4 aV d cm cf cr HZ aN br;refine tQ 15 ?_
   refine wpAnyH_ready (rs:=[16]) (by kernel_rfl) (by simp) ?_;refine AllReadyH.cons (o:=?oH16) ?hiH16 (λK hK=>?_) AllReadyH.nil
   case hiH16=>simp only[gel];rfl
   go_simp;rw[<-bL.out];refine hK.out _ _ bZ (λhHeld=>?_);clear hK K;refine wpAnyH_done (by kernel_rfl) ?_ _;go_wp2_with fail
   (try simp only[Act.put])
   go_roundw
   ·exact⟨c+1,_,by omega,by go_num,Z6⟩
   simp[intOf];omega
  have⟨hge,hcc⟩:¬(c:Int)<CN/\c=CN:=by omega
  subst hcc;have Z2:MS mb w3 vc (sL g5 (i+1) t) vn R (U7 A E (i+1)) (WQ (Yz A E) C (i+1)) wr:=by
   rw[Qr,aq];exact Z
  clear Z I T0 T1 m l r aq;go_wp2_with fail;go_roundw
  ·exact⟨i+1,_,_,by omega,by go_num,Z2⟩
  simp[intOf];omega
 have⟨hge,hiN⟩:¬(i:Int)<g/\i=g:=by omega
 subst hiN;have rM:=Z.c.range;have tz:=T1.there;have bw:=aC.out;obtain⟨a1,c1,e1,_⟩:=Z.oc.il;obtain⟨a2,c2,e2,_⟩:=Z.ol.il;obtain⟨a3,c3,e3,_⟩:=Z.on.il;have bN:Hid ((#[I6 0,vc,vl,vn]:Array Value).all (·.oneCell')=true):=by
  show([I6 0,vc,vl,vn]:List Value).toArray.all (·.oneCell')=true;rw[List.all_toArray,e1,e2,e3];rfl
 have ab:=Y8 (w.heap.size+1) [I6 0,vc,vl,vn] 0 wr;have bz:=Zo wr (w.heap.size+1) 0 [I6 0,vc,vl,vn] tz;have ag:=ZF (P:=Tryz.prog) (wr.setCells (w.heap.size+1) 0 [I6 0,vc,vl,vn]) (w.heap.size+1) 0 25 [I6 0,vc,vl,vn] _ bz u_j rfl Yl;have BX:=I.grown ab I.size (λq hq=>by cases hq;omega);have bn:=Z.oc.blk;have bp:=Z.ol.blk;have bq:=Z.on.blk;have O1:=Z.oc.grown ab (λq hq e=>by have:=Zh e;have:=(bn q hq).1;omega);have O2:=Z.ol.grown ab (λq hq e=>by have:=Zh e;have:=(bp q hq).1;omega);have O3:=Z.on.grown ab (λq hq e=>by have:=Zh e;have:=(bq q hq).1;omega);obtain⟨WX,aP⟩:=nam (wr.setCells (w.heap.size+1) 0 [I6 0,vc,vl,vn]);rw[<-aP]at ag BX O1 O2 O3;have bM:=hyd aP;have bc:=hyd ag;have HO:Hid (OwnL w.heap.size vc R WX/\OwnL w.heap.size vl (U7 A E i) WX/\OwnL w.heap.size vn (WQ (Yz A E) C i) WX/\(∀k,vc.ownBlock=some k->vl.ownBlock≠some k)/\(∀k,vc.ownBlock=some k->vn.ownBlock≠some k)/\(∀k,vl.ownBlock=some k->vn.ownBlock≠some k)/\Bl w WX):=⟨O1.mono (by omega),O2.mono (by omega),O3.mono (by omega),Z.n1,Z.n2,Z.n3,BX⟩;clear Z I T0 T1 m l r ab bz ag BX bn bp bq O1 O2 O3 aP e1 e2 e3 bw;go_wp2_with (first|(with_reducible refine gld 25 ?_;refine X9.out ?_));refine⟨?_⟩;refine Zb rfl 25 _ rfl mb 0 rfl [I6 0,vc,vl,vn] _ rM u_j rfl Yl ?_
 (try simp only[psm])
 refine Za rfl 25 _ _ rfl (w.heap.size+1) 0 #[I6 0,vc,vl,vn] rfl rfl tz Yl bN.out ?_;rw[Zc,<-bM.out];go_wp2_with fail;refine Zr (v:=.agg #[I6 0,vc,vl,vn]) (res_load1 Tryz.results68 rfl bc.out) rfl ?_;obtain⟨o1,o2,o3,o4,o5,o6,o7⟩:=HO.out;have e1:=aj.out;have e2:=aW.out;have e3:=al.out;rw[e1]at e2 e3 o2 o3;rw[e2]at o1;rw[e3]at o3;exact⟨vc,vl,vn,rfl,o1,o2,o3,o4,o5,o6,o7⟩
end
section
open Go.RowKit
open Bm
variable {l:List (N_)}{L:List Value}{K N P b base base' c d gb k n nb t tb:Nat}{F:N_}{v vb vh vl vt:Value}{W w w':World}
theorem WE.hs {f:Nat->N_} (h:WE base v (Vp n f) w):∃ha hc,v=.slice ha n hc/\HS ha f n w:=by
 obtain⟨ad,cap,e,h1⟩:=h.at_;rw[XK]at e;refine⟨ad,cap,e,λp b d c=>?_⟩;obtain⟨g,a,h2⟩:=h1 p _ (RG f d);exact⟨g,0,a,by rw[Zn];exact h2 b _ (YO _ c)⟩
theorem XV.bh {f:Nat->N_} (h:XV base v (Vp n f) w):∃ba bc,v=.slice ba n bc/\BH ba f n w:=by
 obtain⟨ad,cap,e,h1⟩:=h.at_;rw[XK]at e;refine⟨ad,cap,e,λp b=>?_⟩;obtain⟨g,a,h2⟩:=h1 p _ (RG f b);exact⟨g,0,a,by rw[Zn];exact h2⟩
theorem XV.sr (h:XV base v l w):∃sa sc,v=.slice sa l.length sc/\SR sa (λi r=>(l.getD i U9) (96+r)) l.length w:=by
 obtain⟨ad,cap,e,h1⟩:=h.at_;refine⟨ad,cap,e,λi a=>?_⟩;obtain⟨g,b,h2⟩:=h1 i _ (Zd a);refine⟨g,0,b,λr c=>?_⟩;have:=h2 (96+r) _ (YO _ (by omega));show w.cell? (a_ g (0+i*104+96+r))=some (.bool ((l.getD i U9) (96+r)));rw[Zn,ZN,Zf,Zd a];exact this
theorem VS.lb {l:List Nat} (h:VS base v l w) (y:∀(k b:Nat),l[k]?=some b->b<256):∃la lc,v=.slice la l.length lc/\LB la l w:=by
 obtain⟨ad,cap,e,h1⟩:=h.at_;refine⟨ad,cap,e,λk b a=>?_⟩;obtain⟨g,c,h2⟩:=h1 k b a;exact⟨y k b a,g,0,c,by rw[Zn];exact h2⟩
def Dd (hs:Nat->Nat->Bool) (P:Nat):List Nat:=reps (Kq hs P) 256
variable {hs:Nat->N_}
theorem CL (h:(Dd hs P)[k]?=some b):b<256:=(reps_mem h).1
theorem Sw (hs:Nat->N_) (P:Nat):0<(Dd hs P).length/\(Dd hs P).length<=256:=
 ⟨Nat.lt_of_le_of_lt (Nat.zero_le _) (idx_lt (TE hs P 256) (a:=0) (by omega)),cnt_le _ _⟩
theorem Ki (hs:Nat->N_) (P:Nat):Ce hs P (Dd hs P):=λb d=>by
 have a:=TE hs P 256;have h1:=idx_lt a d;obtain⟨c,e⟩:∃c,(Dd hs P)[idx (Kq hs P) b]?=some c:=⟨(Dd hs P)[idx (Kq hs P) b]'h1,Zd _⟩;obtain⟨f,g,h⟩:=reps_mem e;have:idx (Kq hs P) c=idx (Kq hs P) b:=by rw[idx_rep g,h]
 exact⟨_,c,e,(UU hs P c b).1 ((idx_eq a f d).1 this)⟩
variable {bh:Nat->N_}
theorem E8 (y:w.rangeAt nb 0 (MU vh vb F)) (H:WE base vh (Vp P hs) w) (z:XV base' vb (Vp P bh) w):∃ha hc ba bc,NR nb ha hc P hs ba bc bh F w:=by
 obtain⟨ha,hc,rfl,h1⟩:=H.hs;obtain⟨ba,bc,rfl,h2⟩:=z.bh;refine⟨ha,hc,ba,bc,by simpa using y 0 _ rfl,by simpa using y 1 _ rfl,λj v a=>?_,h1,h2⟩;have:=y (2+j) v (by rw[ZP];exact a);simpa using this
theorem Gy {y:Nat}{f:Nat->Int} (z:w.rangeAt y 0 (Yj f vl)):w.rangeAt y 0 (kl f)/\w.cell? (a_ y 256)=some vl:=by
 refine⟨λj v a=>z j v ?_,by simpa using z 256 vl (Wy f vl)⟩;have b:j<256:=by have:=(Zi.1 a).1;rw[E2]at this;exact this
 rw[VY f vl j b];simp[kl,b]at a;exact congrArg some a
theorem IU {A:(N_)->Nat->N_}{ls:List Nat}{t:List Int}{vs:Value} (z:0<ls.length) (h:WS A F ls l.length 0 l t) (H:XV base vs l w) (J:OwnL base vt t w) (y:w.rangeAt gb 0 [I6 ls.length,vs,vt]):∃ta tc sa sc,Gr gb (Xu l t ls.length) ta tc (.slice sa l.length sc) w/\SR sa (λi r=>(l.getD i U9) (96+r)) l.length w:=by
 obtain⟨sa,sc,rfl,h1⟩:=H.sr;obtain⟨ta,tc,rfl,h2⟩:=J.il;obtain⟨_,_,f,_⟩:=h.size;have a:t.length=l.length*ls.length:=by omega
 refine⟨ta,tc,sa,sc,⟨by show _=some (Value.int .i64 (ls.length:Int));simpa using y 0 _ rfl,by simpa using y 1 _ rfl,?_,?_⟩,h1⟩
 ·have:=y 2 _ rfl;rw[a]at this;show _=some (Value.slice ta (l.length*ls.length) tc);simpa using this
 show IL ta (fl (Xu l t ls.length)) (l.length*ls.length) w;rw[<-a];intro i c;obtain⟨b,o,e,d⟩:=h2 i c;refine⟨b,o,e,?_⟩;rw[Nt _ _ _ _ z,Zf,Zd c];simpa[Zf,Zd c]using d
open Pg (Pt)
def XL:List Value:=[.int .i64 0,.slice none 0 0,.slice none 0 0,.slice none 0 0]
def VT (es:Nat->Rx) (n:Nat) (f:Nat->Bool) (b:Nat):Nat->Bool:=Yh (Xn es n) (Ty es n) f b (Y2 es n)
def TV (es:Nat->Rx) (n:Nat):List Nat:=Dd (Xn es n) (Y2 es n)
def CJ (es:Nat->Rx) (n:Nat) (b:Nat):Int:=idxI (Kq (Xn es n) (Y2 es n)) b
def Nj (es:Nat->Rx) (n:Nat) (w:World) (en:Ending) (w':World):Prop:=
 Below w.heap.size w w' /\
 ((en=.returned (.tuple #[.agg XL.toArray,.int .i64 8])/\∃s k l t f b,WS (VT es n) (X5 es n) (TV es n) s k l t/\l[s]?=some f/\(TV es n)[k]?=some b/\200<=Xz l (VT es n f b)) \/
  ∃l t A,A=Xu l t (TV es n).length/\WS (VT es n) (X5 es n) (TV es n) l.length 0 l t /\
  ((96<cnt (alB A) A.N/\en=.returned (.tuple #[.agg XL.toArray,.int .i64 9])) \/
   (¬96<cnt (alB A) A.N/\∃vc vl vn kf,en=.returned (.tuple #[.agg #[.int .i64 n,vc,vl,vn],.int .i64 0])/\(∀b,b<256->kf b=CJ es n b) /\
   OwnL w.heap.size vc (TL (Cl (Yz A (alB A)) (cnt (alB A) A.N)) kf 256) w'/\OwnL w.heap.size vl (U7 A (alB A) (cnt (alB A) A.N)) w'/\OwnL w.heap.size vn (WQ (Yz A (alB A)) (reps (Cl (Yz A (alB A)) (cnt (alB A) A.N)) A.K) (cnt (alB A) A.N)) w' /\
   (∀k,vc.ownBlock=some k->vl.ownBlock≠some k)/\(∀k,vc.ownBlock=some k->vn.ownBlock≠some k)/\(∀k,vl.ownBlock=some k->vn.ownBlock≠some k))))
theorem WW (w:World) (y Z:List Value) (z:TypeId) (H:Z.length=y.length):Bl w ((w.alloc (.cells y.toArray z)).setCells w.heap.size 0 Z)/\((w.alloc (.cells y.toArray z)).setCells w.heap.size 0 Z).rangeAt w.heap.size 0 Z/\w.heap.size+1<=((w.alloc (.cells y.toArray z)).setCells w.heap.size 0 Z).heap.size/\(w.alloc (.cells y.toArray z)).there w.heap.size 0 Z.length:=by
 have T:=(TC.boxed w y z).there;rw[<-H]at T;have a:=Y8 w.heap.size Z 0 (w.alloc (.cells y.toArray z));have B:=box_bel w (.cells y.toArray z);have hs:(w.alloc (.cells y.toArray z)).heap.size=w.heap.size+1:=by simp
 refine⟨B.grown a B.size (λq b=>by cases b;omega),Zo _ _ 0 Z T,?_,T⟩;have:=a.size;omega
theorem Rl (y:w.there t 0 L.length):TC t L (w.setCells t 0 L):=λk v a=>by
 have h1:=Zo w t 0 L y k v a;have b:=(Zi.1 a).1;have h2:=(y k b).2;rw[Zn]at h1 h2;refine⟨h1,?_⟩;rw[World.frozen?_setCells];exact h2
theorem WU (a b c d:Value) (T:TC w.heap.size XL W) (B:Bl w W):W.there w.heap.size 0 4/\Bl w (W.setCells w.heap.size 0 [a,b,c,d])/\(loadVar 25 (a_ w.heap.size 0)).run Tryz.prog (W.setCells w.heap.size 0 [a,b,c,d])=.ok (.agg #[a,b,c,d]) (W.setCells w.heap.size 0 [a,b,c,d])/\W.grownBy (W.setCells w.heap.size 0 [a,b,c,d]) (some w.heap.size):=by
 have t:=T.there;have e:=Y8 w.heap.size [a,b,c,d] 0 W;exact⟨t,B.grown e B.size (λq f=>by cases f;omega),ZF (P:=Tryz.prog) _ w.heap.size 0 25 [a,b,c,d] _ (Zo W w.heap.size 0 [a,b,c,d] t) u_j rfl Yl,e⟩
theorem Mq (b bz cap n:Nat) (f:Nat->ByteArray) (w:World) (h1:1<=n) (h8:n<=8) (hb:b<w.heap.size) (hm:∀i,i<n->(f i).size<=maxLen) (hr:Sg b bz f n w) (bx:∀j,j<n->(Pg.wrong (Y7 (f j)) (f j).size).1=0) (bw:¬96<Ye (λj=>Ym (f j)) n):
  Cp 34 #[.slice (some (a_ b bz)) n cap] w (Nj (λj=>Si (f j)) n w):=by
 have hz:=WV;have br:=Rq;have bt:=OY;have bu:=OX;have bv:=QD;obtain⟨W0,R⟩:∃W,W=w.alloc (.cells #[I6 0,sN,sN,sN] 25):=⟨_,rfl⟩;have T0:TC w.heap.size XL W0:=by rw[R];exact TC.boxed w XL _
 have B0:Bl w W0:=by rw[R];exact box_bel _ _
 have a7:W0.heap.size=w.heap.size+1:=by rw[R];simp
 obtain⟨es,S⟩:∃es:Nat->Rx,es=λj=>Si (f j):=⟨_,rfl⟩
 have a5:∀j,j<n->(Pg.readParts (Y7 (f j)) (f j).size).ok=true:=λj hj=>((XT (f j)).2 (bx j hj)).2.2
 have ae:=(Pl es (λj=>Ym (f j)) n (λi hi=>by rw[S];exact SA (f i) (a5 i hi)) bw).2;have HL:Hid (Pb (Y2 es n) (Xn es n) (Ty es n) (X5 es n)):=Ky es n h1 h8 ae (λk hk=>by rw[S];exact LX (f k) (bx k hk));have bd:Hid (∀p,p<Y2 es n->K3 (Y2 es n) (Ty es n) p):=Kw es n h8 ae;have aI:Hid (Cp 64 #[.slice (some (a_ b bz)) n cap] W0 (Ec es n W0)):=by
  show Calls _ _ _ _ _;rw[S];exact Co b bz cap n f W0 h1 h8 (by omega) hm (hr.below hb B0) bx bw
 have aJ:Hid (W0=w.alloc (.cells #[I6 0,sN,sN,sN] 25)):=R;rw[<-S];have am:Hid (W0.heap.size=w.heap.size+1):=a7;have HN:Hid (Y2 es n<=96):=ae;have bq:(n:Int)<=8:=by omega
 clear R S a5 ae a7 hr bx bw hm;go_enter Tryz.func34,Tryz.ntmps34;go_wp2_with fail;rw[<-aJ.out];refine aI.out.mono ?_;rintro en w2 ⟨vh,vb,rfl,OH,OB,B2⟩;have aG:Hid (WE W0.heap.size vh (Vp (Y2 es n) (Xn es n)) w2/\XV W0.heap.size vb (Vp (Y2 es n) (Ty es n)) w2/\Bl w w2/\TC w.heap.size XL w2/\w.heap.size+1<=w2.heap.size):=⟨OH,OB,B0.trans (B2.mono (by have:=am.out;omega)),T0.block (B2.block _ (by have:=am.out;omega)),by have:=am.out;have:=B2.size;omega⟩;obtain⟨Z,hZ⟩:∃Z,Z=MU vh vb (X5 es n):=⟨_,rfl⟩;rw[<-hZ];have aP:Hid (Z=MU vh vb (X5 es n)):=hZ;have HZ:Hid (Z.length=106):=by show _=_;rw[hZ];exact U8 _ _ _
 have T:vh.oneCell'=true:=by obtain⟨a1,c1,e1,_⟩:=OH.at_;rw[e1];rfl
 have U:vb.oneCell'=true:=by obtain⟨a1,c1,e1,_⟩:=OB.at_;rw[e1];rfl
 have aH:Hid (Z.toArray.all (·.oneCell')=true):=by show _=true;rw[hZ];exact QZ T U _
 clear OH OB B2 hZ T U B0 T0 aI aJ;go_wp2_with (first|(with_reducible refine gst 137 ?_;refine X9.out ?_));refine⟨?_⟩;obtain⟨w3,ar⟩:∃W,W=(w2.alloc (.cells XC.toArray 137)).setCells w2.heap.size 0 Z:=⟨_,rfl⟩;have a:=WW w2 XC Z 137 (by rw[HZ.out];exact(U8 _ _ _).symm);rw[<-ar]at a;obtain⟨B3,r3,s3,t3⟩:=a;obtain⟨OH,OB,ax,T2,z2⟩:=aG.out;refine Za rfl 137 _ _ rfl w2.heap.size 0 Z.toArray rfl rfl (by simpa using t3) (by simpa[HZ.out]using VG) aH.out ?_;rw[Zc,<-ar];rw[aP.out]at r3;obtain⟨ha,hc,ba,bc,N3⟩:=E8 r3 (OH.below B3) (OB.below B3);have M:Bl w w3:=ax.trans (B3.mono (by omega));have T3:=T2.block (B3.block _ (by omega));have aC:Hid (Cp 65 #[.pointer (some (a_ w2.heap.size 0))] w3 (JB (Kq (Xn es n) (Y2 es n)) w3)):=Kj w2.heap.size ha hc (Y2 es n) (Xn es n) w3 HN.out N3.c0 N3.h;have aF:Hid (NR w2.heap.size ha hc (Y2 es n) (Xn es n) ba bc (Ty es n) (X5 es n) w3):=N3;have aL:Hid (Bl w w3/\TC w.heap.size XL w3/\w2.heap.size+1<=w3.heap.size/\w.heap.size+1<=w2.heap.size):=⟨M,T3,s3,z2⟩;clear ar OH OB ax T2 t3 r3 N3 M T3 B3 aG aH HZ aP s3 z2;go_wp2_with fail;refine aC.out.mono ?_;rintro en z ⟨kf,vl,rfl,a3,OU,B4⟩;obtain⟨Kc,Q⟩:∃K,K=Yj kf vl:=⟨_,rfl⟩;rw[<-Q];have al:Hid (Kc.length=257):=by show _=_;rw[Q];exact Xl _ _
 obtain⟨la,lc,an,aS⟩:=OU.lb (λk b hk=>CL hk);have aA:Hid (Kc.toArray.all (·.oneCell')=true):=by
  show _=true;rw[Q,an,List.all_toArray];simp[Yj,Value.oneCell']
 have aB:Hid (Kc=Yj kf vl):=Q;clear Q;go_wp2_with (first|(with_reducible refine gst 142 ?_;refine X9.out ?_));refine⟨?_⟩;obtain⟨w5,au⟩:∃W,W=(z.alloc (.cells (Yj (λ_=>0) (sN)).toArray 142)).setCells z.heap.size 0 Kc:=⟨_,rfl⟩;have a:=WW z (Yj (λ_=>0) (sN)) Kc 142 (by rw[al.out,Xl]);rw[<-au]at a;obtain⟨B5,r5,s5,t5⟩:=a;refine Za rfl 142 _ _ rfl z.heap.size 0 Kc.toArray rfl rfl (by simpa using t5) (by simpa[al.out]using TQ) aA.out ?_;rw[Zc,<-au];obtain⟨M,T3,z3,z2⟩:=aL.out;have z4:=B4.size;rw[aB.out]at r5;obtain⟨rk,ck⟩:=Gy r5;rw[an]at ck;obtain⟨m,hm⟩:∃m,m=(TV es n).length:=⟨_,rfl⟩;have a4:m=(reps (Kq (Xn es n) (Y2 es n)) 256).length:=hm;rw[<-a4]at ck;have bp:m<=256:=by rw[hm];exact(Sw _ _).2
 have N5:=(aF.out.below B4).below B5;have D:Bl w w5:=(M.trans (B4.mono (by omega))).trans (B5.mono (by omega));have T5:=(T3.block (B4.block _ (by omega))).block (B5.block _ (by omega));have az:Hid (Cp 66 #[.pointer (some (a_ w2.heap.size 0)),.slice la m lc] w5 (Eb (VT es n) (X5 es n) (TV es n) w5)):=by
  show Calls _ _ _ _ _;rw[hm];exact JZ w2.heap.size ha hc (Y2 es n) (Xn es n) ba bc (Ty es n) (X5 es n) la lc (TV es n) w5 HN (Sw _ _).2 N5 (aS.below B5)
 have aM:Hid (Bl w w5/\TC w.heap.size XL w5/\z.heap.size+1<=w5.heap.size/\w.heap.size+1<=z.heap.size/\w5.rangeAt z.heap.size 0 (kl kf)):=⟨D,T5,s5,by omega,rk⟩;have Hm:Hid (m=(TV es n).length):=hm;have aR:Hid (∀b,b<256->kf b=CJ es n b):=a3;clear au r5 rk B5 s5 t5 M T3 z3 z2 z4 N5 D T5 hm a4 a3 an OU aS B4 aA al aB aC aF aL;go_wp2_with fail;refine az.out.mono ?_;rintro en o ⟨B6,aq⟩;obtain⟨D,T5,z5,z4,rk⟩:=aM.out;have T6:=T5.block (B6.block _ (by omega));have I:Bl w o:=D.trans (B6.mono D.size);rcases aq with ⟨vs,vt,l,t,rfl,hE,OS,OL⟩|⟨rfl,aY⟩
 ·rw[<-Hm.out];go_wp2_with (first|(with_reducible refine gst 146 ?_;refine X9.out ?_));refine⟨?_⟩;obtain⟨B,E⟩:∃W,W=(o.alloc (.cells MM.toArray 146)).setCells o.heap.size 0 [I6 m,vs,vt]:=⟨_,rfl⟩;have a:=WW o MM [I6 m,vs,vt] 146 rfl;rw[<-E]at a;obtain⟨Y,r7,s7,t7⟩:=a;obtain⟨_,_,aU,_⟩:=OS.at_;obtain⟨_,_,aV,_⟩:=OL.il;refine Za rfl 146 _ _ rfl o.heap.size 0 #[I6 m,vs,vt] rfl rfl t7 WG (by simp[aU,aV,Value.oneCell']) ?_;rw[Zc];have y:B=(o.alloc (.cells #[I6 0,sN,sN] 146)).setCells o.heap.size 0 [I6 m,vs,vt]:=E;rw[<-y];have z6:=B6.size;have T7:=T6.block (Y.block _ (by omega));have s:Bl w B:=I.trans (Y.mono I.size);rw[Hm.out]at r7;obtain⟨ta,tc,sa,sc,G7,S7⟩:=IU (Sw _ _).1 hE (OS.below Y) (OL.below Y) r7;have a8:B.rangeAt z.heap.size 0 (kl kf):=λj v hv=>by
   have h:=rk j v hv;rw[Y.cell (p:=(a_ z.heap.size (0+j))) (by show z.heap.size<o.heap.size;omega),B6.cell (p:=(a_ z.heap.size (0+j))) (by show z.heap.size<w5.heap.size;omega)];exact h
  obtain⟨A,hA⟩:∃A,A=Xu l t (TV es n).length:=⟨_,rfl⟩;have aX:=hE.size;have ac:Aut.Small A:=by rw[hA];exact⟨aX.2.1,(Sw _ _).2⟩
  have ap:A.Good:=by rw[hA];exact Nu HL bd (Ki _ _) hE
  have ao:A.N=l.length:=by rw[hA];rfl
  have aW:A.K=(TV es n).length:=by rw[hA];rfl
  have af:∀i,i<A.N->A.vd i=To ((λi r=>(l.getD i U9) (96+r)) i) 8 0:=λi _=>by rw[hA];rfl
  rw[show Xu l t (Dd (Xn es n) (Y2 es n)).length=A from hA.symm,<-ao]at G7;rw[<-ao]at S7;obtain⟨rl,a6⟩:∃rl:Nat->N_,rl=λi r=>(l.getD i U9) (96+r):=⟨_,rfl⟩
  rw[<-a6]at S7 af;have a2:∀b,b<256->0<=kf b/\kf b<A.K:=λb hb=>by
   have h1:=idx_lt (TE (Xn es n) (Y2 es n) 256) hb;rw[aR.out b hb,aW];have h2:CJ es n b=(idx (Kq (Xn es n) (Y2 es n)) b:Int):=rfl;have h3:(TV es n).length=cnt (Kq (Xn es n) (Y2 es n)) 256:=rfl;omega
  have ay:Hid (Cp 67 #[.pointer (some (a_ o.heap.size 0))] B (QL (alB A) A.N B)):=FW o.heap.size A ta tc sa sc rl B ac ap (by omega) G7 S7 af;have aD:Hid (∀(vo vf:Value) (b1 b2:Nat) (W:World),Bl B W->OwnL b1 vo (Va (alB A) A.N) W->OwnL b2 vf (YS (alB A) A.N) W->Cp 68 #[.pointer (some (a_ o.heap.size 0)),.pointer (some (a_ z.heap.size 0)),.agg #[vo,vf]] W (Nk A (alB A) kf W)):=λvo vf b1 b2 W hW ho hf=>
   MN o.heap.size A ta tc sa sc rl z.heap.size kf (alB A) b1 b2 vo vf W ac ap.rng (G7.below hW) (S7.below hW) af (λj v hv=>by
    rw[hW.cell (p:=(a_ z.heap.size (0+j))) (by show z.heap.size<B.heap.size;omega)];exact a8 j v hv) a2 ho hf
  have ab:Hid (A=Xu l t (TV es n).length/\WS (VT es n) (X5 es n) (TV es n) l.length 0 l t):=⟨hA,hE⟩;have aN:Hid (Bl w B/\TC w.heap.size XL B/\w.heap.size+1<=B.heap.size):=⟨s,T7,by omega⟩;have bb:Hid (A.N<=200):=ac.n;clear E y T7 s T6 I T5 D rk a8 Y r7 t7 hA aX ac ap ao aW af G7 S7 a6 a2 hE OS OL aU aV z6 s7 B6 z5 z4 aM az;go_wp2_with fail;refine ay.out.mono ?_;rintro en w8 ⟨vo,vf,rfl,Oo,Of,bi,B8⟩;obtain⟨fa,fc,P,_⟩:=Of.il;rw[YJ]at P;obtain⟨C,hC⟩:∃C,C=cnt (alB A) A.N:=⟨_,rfl⟩;rw[<-hC]at P;have aj:Hid ((#[vo,vf]:Array Value).all (·.oneCell')=true):=by
   obtain⟨_,_,bf,_⟩:=Oo.il;show _=true;simp[bf,P,Value.oneCell']
  have ai:Hid (vf=.slice fa C fc):=P;have HC:Hid (C=cnt (alB A) A.N):=hC;clear P hC;go_wp2_with (first|(with_reducible refine gst 150 ?_;refine X9.out ?_));refine⟨?_⟩;obtain⟨X,av⟩:∃W,W=(w8.alloc (.cells [sN,sN].toArray 150)).setCells w8.heap.size 0 [vo,vf]:=⟨_,rfl⟩;have a:=WW w8 [sN,sN] [vo,vf] 150 rfl;rw[<-av]at a;obtain⟨B9,r9,s9,t9⟩:=a;refine Za rfl 150 _ _ rfl w8.heap.size 0 #[vo,vf] rfl rfl t9 WT aj.out ?_;rw[Zc];have ak:X=(w8.alloc (.cells #[sN,sN] 150)).setCells w8.heap.size 0 [vo,vf]:=av;rw[<-ak];obtain⟨s,T7,z7⟩:=aN.out;have z8:=B8.size;have u:Bl w X:=(s.trans (B8.mono (by omega))).trans (B9.mono (by omega));have T9:=(T7.block (B8.block _ (by omega))).block (B9.block _ (by omega));have cf:X.cell? (a_ w8.heap.size 1)=some (.slice fa C fc):=by rw[<-ai.out];simpa using r9 1 _ rfl
  have aE:Hid (Cp 68 #[.pointer (some (a_ o.heap.size 0)),.pointer (some (a_ z.heap.size 0)),.agg #[vo,vf]] X (Nk A (alB A) kf X)):=aD.out vo vf _ _ X (B8.trans (B9.mono z8)) (Oo.below B9) (Of.below B9);have bn:(C:Int)<=200:=by have h1:=cnt_le (alB A) A.N;have h2:=bb.out;have h3:=HC.out;omega
  have aO:Hid (Bl w X/\TC w.heap.size XL X/\w.heap.size+1<=X.heap.size):=⟨u,T9,by omega⟩;clear av ak Oo Of bi B8 B9 s9 t9 ai aj s T7 z7 z8 u T9 aN aD ay;by_cases aZ:96<C
  ·have a0:(C:Int) > 96:=by omega
   obtain⟨u,T9,z9⟩:=aO.out;obtain⟨tz,BX,c,_⟩:=WU (I6 0) (sN) (sN) (sN) T9 u;obtain⟨L,g⟩:∃W,W=X.setCells w.heap.size 0 [I6 0,sN,sN,sN]:=⟨_,rfl⟩;rw[<-g]at BX c;have O:Hid (L=X.setCells w.heap.size 0 [I6 0,sN,sN,sN]):=g;have x:Hid ((loadVar 25 (a_ w.heap.size 0)).run Tryz.prog L=.ok (.agg #[I6 0,sN,sN,sN]) L):=c;clear g c T9 u z9 r9;go_wp2_with (first|(with_reducible refine gst 25 ?_;refine X9.out ?_));refine⟨?_⟩;refine Za rfl 25 _ _ rfl w.heap.size 0 #[I6 0,sN,sN,sN] rfl rfl tz Yl (by simp[Value.oneCell']) ?_;rw[Zc,<-O.out];go_wp2_with fail;refine Zr (v:=.tuple #[.agg #[I6 0,sN,sN,sN],I6 9]) (XO Tryz.results34 rfl x.out rfl) rfl ?_;exact⟨BX,Or.inr ⟨l,t,A,ab.out.1,ab.out.2,Or.inl ⟨by rw[<-HC.out];exact aZ,rfl⟩⟩⟩
  have a0:¬(C:Int) > 96:=by omega
  go_wp2_with (first|(with_reducible refine gld 150 ?_;refine X9.out ?_));refine⟨?_⟩;refine Zb rfl 150 _ rfl w8.heap.size 0 rfl [vo,vf] _ r9 u_l rfl WT ?_
  (try simp only[psm])
  clear r9 cf;go_wp2_with fail;refine aE.out.mono ?_;rintro en d ⟨vc,vl,vn,rfl,o1,o2,o3,n1,n2,n3,aa⟩;obtain⟨_,_,e1,_⟩:=o1.il;obtain⟨_,_,e2,_⟩:=o2.il;obtain⟨_,_,e3,_⟩:=o3.il;have be:Hid ((#[I6 0,vc,vl,vn]:Array Value).all (·.oneCell')=true):=by
   show([I6 0,vc,vl,vn]:List Value).toArray.all (·.oneCell')=true;rw[List.all_toArray,e1,e2,e3];rfl
  have aQ:Hid ((#[I6 n,vc,vl,vn]:Array Value).all (·.oneCell')=true):=by
   show([I6 n,vc,vl,vn]:List Value).toArray.all (·.oneCell')=true;rw[List.all_toArray,e1,e2,e3];rfl
  clear e1 e2 e3;go_wp2_with (first|(with_reducible refine gst 25 ?_;refine X9.out ?_));refine⟨?_⟩;obtain⟨ag,F⟩:∃W,W=(d.alloc (.cells XL.toArray 25)).setCells d.heap.size 0 [I6 0,vc,vl,vn]:=⟨_,rfl⟩;have a:=WW d XL [I6 0,vc,vl,vn] 25 rfl;have TM:TC d.heap.size [I6 0,vc,vl,vn] ag:=by rw[F];exact Rl a.2.2.2
  rw[<-F]at a;obtain⟨aw,_,bj,a9⟩:=a;refine Za rfl 25 _ _ rfl d.heap.size 0 #[I6 0,vc,vl,vn] rfl rfl a9 Yl be ?_;rw[Zc];have V:ag=(d.alloc (.cells #[I6 0,sN,sN,sN] 25)).setCells d.heap.size 0 [I6 0,vc,vl,vn]:=F;rw[<-V];obtain⟨u,T9,z9⟩:=aO.out;have bm:=aa.size;obtain⟨J,G⟩:∃W,W=ag.setCell (a_ d.heap.size 0) (I6 n):=⟨_,rfl⟩;have TN:TC d.heap.size [I6 n,vc,vl,vn] J:=by rw[G];exact TM.set 0 (by simp) _
  have H:Bl d J:=by rw[G];exact aw.setCell (p:=(a_ d.heap.size 0)) (Zg _) _
  have ah:Bl w J:=(u.trans (aa.mono (by omega))).trans (H.mono (by omega));have aT:=(T9.block (aa.block _ (by omega))).block (H.block _ (by omega));obtain⟨tz,BX,c,hG⟩:=WU (I6 n) vc vl vn aT ah;have rM:=TN.range;have cm:=(TM 0 _ rfl).1;have fm:=(TM 0 _ rfl).2;have b1:=o1.blk;have b2:=o2.blk;have b3:=o3.blk;have O1:=(o1.below H).grown hG (λq hq e=>by have:=Zh e;have:=(b1 q hq).1;omega);have O2:=(o2.below H).grown hG (λq hq e=>by have:=Zh e;have:=(b2 q hq).1;omega);have O3:=(o3.below H).grown hG (λq hq e=>by have:=Zh e;have:=(b3 q hq).1;omega);obtain⟨L,g⟩:∃W,W=J.setCells w.heap.size 0 [I6 n,vc,vl,vn]:=⟨_,rfl⟩;rw[<-g]at BX c O1 O2 O3;have O:Hid (L=J.setCells w.heap.size 0 [I6 n,vc,vl,vn]):=g;have aK:Hid (J=ag.setCell (a_ d.heap.size 0) (I6 n)):=G;have x:Hid ((loadVar 25 (a_ w.heap.size 0)).run Tryz.prog L=.ok (.agg #[I6 n,vc,vl,vn]) L):=c;have HP:Hid (Nj es n w (.returned (.tuple #[.agg #[I6 n,vc,vl,vn],I6 0])) L):=
   ⟨BX,Or.inr ⟨l,t,A,ab.out.1,ab.out.2,Or.inr ⟨by rw[<-HC.out];exact aZ,vc,vl,vn,kf,rfl,aR.out,O1.mono (by omega),O2.mono (by omega),O3.mono (by omega),n1,n2,n3⟩⟩⟩
  clear F V G g c hG O1 O2 O3 b1 b2 b3 o1 o2 o3 n1 n2 n3 aa aw H u T9 ah aT BX TM TN z9 bm bj a9;go_wp2_with (first|(with_reducible refine gld 25 ?_;refine X9.out ?_));refine⟨?_⟩;rw[<-aK.out];refine Zb rfl 25 _ rfl d.heap.size 0 rfl [I6 n,vc,vl,vn] _ rM u_j rfl Yl ?_
  (try simp only[psm])
  refine Za rfl 25 _ _ rfl w.heap.size 0 #[I6 n,vc,vl,vn] rfl rfl tz Yl aQ.out ?_;rw[Zc,<-O.out];go_wp2_with fail;exact Zr (v:=.tuple #[.agg #[I6 n,vc,vl,vn],I6 0]) (XO Tryz.results34 rfl x.out rfl) rfl HP.out
 go_wp2_with (first|(with_reducible refine gst 146 ?_;refine X9.out ?_));refine⟨?_⟩;obtain⟨B,E⟩:∃W,W=(o.alloc (.cells MM.toArray 146)).setCells o.heap.size 0 MM:=⟨_,rfl⟩;have a:=WW o MM MM 146 rfl;rw[<-E]at a;obtain⟨Y,r7,s7,t7⟩:=a;refine Za rfl 146 _ _ rfl o.heap.size 0 MM.toArray rfl rfl t7 WG (by simp[MM,Value.oneCell']) ?_;rw[Zc];have y:B=(o.alloc (.cells #[I6 0,sN,sN] 146)).setCells o.heap.size 0 MM:=E;rw[<-y];have T7:=T6.block (Y.block _ (by have:=B6.size;omega));have s:Bl w B:=I.trans (Y.mono I.size);obtain⟨tz,BX,c,_⟩:=WU (I6 0) (sN) (sN) (sN) T7 s;obtain⟨L,g⟩:∃W,W=B.setCells w.heap.size 0 [I6 0,sN,sN,sN]:=⟨_,rfl⟩;rw[<-g]at BX c;have O:Hid (L=B.setCells w.heap.size 0 [I6 0,sN,sN,sN]):=g;have x:Hid ((loadVar 25 (a_ w.heap.size 0)).run Tryz.prog L=.ok (.agg #[I6 0,sN,sN,sN]) L):=c;clear E y g c T7 s T6 I T5 D rk Y r7 t7;go_wp2_with (first|(with_reducible refine gst 25 ?_;refine X9.out ?_));refine⟨?_⟩;refine Za rfl 25 _ _ rfl w.heap.size 0 #[I6 0,sN,sN,sN] rfl rfl tz Yl (by simp[Value.oneCell']) ?_;rw[Zc,<-O.out];go_wp2_with fail;refine Zr (v:=.tuple #[.agg #[I6 0,sN,sN,sN],I6 8]) (XO Tryz.results34 rfl x.out rfl) rfl ?_;exact⟨BX,Or.inl ⟨rfl,aY⟩⟩
end
section
open Go.RowKit
open Bm
theorem Vl (w:World):(zeroValue 118).run Tryz.prog w=.ok (.agg #[I6 0,sN,sN,I6 0,I6 0]) w:=by kernel_rfl
theorem Wx:(Tryz.prog.info? 118).map (·.size)=some 5:=by kernel_rfl
def Q1:List Value:=[.int .i64 0,.slice none 0 0,.slice none 0 0,.int .i64 0,.int .i64 0]
def Vq (d:Nd) (vin:Value) (ka:Option Addr) (kc:Nat):List Value:=[.int .i64 d.kind,vin,.slice ka d.kids.length kc,.int .i64 d.up,.int .i64 d.at_]
def TR (tb:Nat) (T:Nat->Nd) (N:Nat) (w:World):Prop:=
 ∃na nc,w.cell? ⟨tb,0,none⟩=some (.slice na N nc)/\∀i,i<N->∃nb off vin ka kc,na=some ⟨nb,off,none⟩/\w.rangeAt nb (off+i*5) (Vq (T i) vin ka kc)/\vin.oneCell'=true/\IL ka (λk=>(((T i).kids.getD k 0:Nat):Int)) (T i).kids.length w/\((T i).kind=0->∃ia ic,vin=.slice ia 256 ic/\BR ia (T i).inn 256 w)
variable {l:List (N_)}{K N b c d k tb:Nat}{F:N_}{T:Nat->Nd}{w w':World}
theorem TR.below (h:TR tb T N w) (y:Bl w w'):TR tb T N w':=by
 obtain⟨s,nc,c,h⟩:=h;refine⟨s,nc,by rw[y.cell (p:=(a_ tb 0)) (Ze w _ c)];exact c,λi f=>?_⟩;obtain⟨nb,a,b,n,q,e,r,o,il,g⟩:=h i f;refine⟨nb,a,b,n,q,e,λj v k=>?_,o,il.below y,λhz=>?_⟩
 ·have:=r j v k;rw[y.cell (p:=(a_ nb (a+i*5+j))) (Ze w _ this)];exact this
 obtain⟨l,m,e2,d⟩:=g hz;exact⟨l,m,e2,d.below y⟩
theorem Vu (tb:Nat) (T:Nat->Nd) (N:Nat) (hN:N<=1000000) (hw:Wf T N) (ag:∀i,i<N->(T i).kind<=4) (nl:N_) (h0:∀n,n<N->(T n).kind=0->nl n=false) (h1:∀n,n<N->(T n).kind=1\/(T n).kind=4->nl n=(T n).kids.all nl) (h2:∀n,n<N->(T n).kind=2->nl n=(T n).kids.any nl) (h3:∀n,n<N->(T n).kind=3->nl n=true):
  ∀(f n:Nat) (w:World),n<f->n<N->TR tb T N w->(∀i,i<N->(T i).kids.length<=1000000)->Cp 115 #[pT tb,I6 n] w λe w'=>e=.returned (.bool (nl n))/\Bl w w'
 |0,n,w,hf,_,_,_=>by omega
 |f+1,n,w,hf,hn,hT,hkl=>by
  have hz:=Vl;have Z:Hid (∀(k:Nat) (w':World),k∈(T n).kids->Bl w w'->Cp 115 #[pT tb,I6 k] w' λe w''=>e=.returned (.bool (nl k))/\Bl w' w''):=λk w' q hW=>
   Vu tb T N hN hw ag nl h0 h1 h2 h3 f k w' (by have:=hw n hn k q;omega) (by have:=hw n hn k q;omega) (hT.below hW) hkl
  obtain⟨na,nc,c0,F⟩:=hT;obtain⟨nb,W,b,u,C,e,r,o,il,_⟩:=F n hn;subst e;have af:(n:Int)<N:=by omega
  have ab:(N:Int)<=1000000:=by omega
  have R:=hkl n hn;have S:=ag n hn;obtain⟨d,hd⟩:=nam (T n);have M:=h0 n hn;have g1:=h1 n hn;have g2:=h2 n hn;have O:=h3 n hn;rw[<-hd]at r il R M g1 g2 O Z S;obtain⟨m,hm⟩:=nam d.kids.length;have ae:(m:Int)<=1000000:=by omega
  have D:=hyd hm;have I:=hyd4 M g1 g2 O;have L:Hid (∀w',Bl w w'->IL u (λk=>((d.kids.getD k 0:Nat):Int)) d.kids.length w'):=λw' h=>il.below h
  clear F hd M g1 g2 O h0 h1 h2 h3 il hkl ag hw;go_enter Tryz.func115,Tryz.ntmps115;go_wp2_with (first|(with_reducible refine gld 118 ?_;refine X9.out ?_));refine⟨?_⟩;refine Zb rfl 118 _ rfl nb (W+n*5) rfl (Vq d b u C) _ r u_p rfl Wx ?_
  (try simp only[psm])
  go_wp2_with (first|(with_reducible refine gst 118 ?_;refine X9.out ?_));refine⟨?_⟩;obtain⟨w2,j⟩:=nam ((w.alloc (.cells Q1.toArray 118)).setCells w.heap.size 0 (Vq d b u C));have A:=WW w Q1 (Vq d b u C) 118 rfl;have c:TC w.heap.size (Vq d b u C) w2:=by rw[j];exact Rl A.2.2.2
  rw[<-j]at A;obtain⟨G,_,s2,t2⟩:=A;refine Za rfl 118 _ _ rfl w.heap.size 0 (Vq d b u C).toArray rfl rfl t2 Wx (by simp only[Vq,List.all_toArray,List.all_cons,o];rfl) ?_;rw[Zc];have t:w2=(w.alloc (.cells #[I6 0,sN,sN,I6 0,I6 0] 118)).setCells w.heap.size 0 (Vq d b u C):=j;rw[<-t];have ck:=(c 0 _ rfl).1;have E:=(c 2 _ rfl).1;rw[<-D.out]at E;clear j t t2 r;by_cases e0:d.kind=0
  ·have q0:((d.kind:Int)==0)=true:=by simp[e0]
   have z:=hyd (I.out.1 e0);clear c;go_wp2;go_ret;exact⟨YN z.out.symm,G⟩
  have q0:((d.kind:Int)==0)=false:=by simp;omega
  by_cases e3:d.kind=3
  ·have q3:((d.kind:Int)==3)=true:=by simp[e3]
   have z:=hyd (I.out.2.2.2 e3);clear c;go_wp2;go_ret;exact⟨YN z.out.symm,G⟩
  have q3:((d.kind:Int)==3)=false:=by simp;omega
  have v:=hyd2 G c;clear c;go_wp2
  go_loopw [6,7,8] (λa s x w'=>∃i:Nat,i<=m/\x=I6 i/\a=.bool ((d.kids.take i).all nl)/\s=.bool ((d.kids.take i).any nl)/\Bl w w'/\TC w.heap.size (Vq d b u C) w'/\w.heap.size+1<=w'.heap.size) (λ_ _ x _=>m-(intOf x).toNat)
  ·exact⟨0,by omega,rfl,by simp,by simp,v.out.1,v.out.2,s2⟩
  clear ck E G v s2;obtain⟨i,hi,rfl,rfl,rfl,B,c,sz⟩:=hrel;have ck:=(c 0 _ rfl).1;have E:=(c 2 _ rfl).1;rw[<-D.out]at E;by_cases ac:i<m
  ·have aa:(i:Int)<m:=by omega
   obtain⟨k,q⟩:∃k,d.kids[i]?=some k:=⟨d.kids[i]'(by have:=D.out;omega),Zd _⟩;obtain⟨g,og,eg,cg⟩:=L.out wr B i (by have:=D.out;omega);subst eg;simp only[Zf,q,Option.getD_some]at cg;have y:=hyd (Z k wr (List.mem_of_getElem? q) B);have l:Hid ((d.kids.take (i+1)).all nl=((d.kids.take i).all nl&&nl k)):=by
    show _=_;rw[List.take_add_one,q];simp
   have p:Hid ((d.kids.take (i+1)).any nl=((d.kids.take i).any nl || nl k)):=by
    show _=_;rw[List.take_add_one,q];simp
   have HT:=hyd c;obtain⟨X,P⟩:=nam ((d.kids.take i).all nl);obtain⟨Y,Q⟩:=nam ((d.kids.take i).any nl);obtain⟨V,J⟩:=nam (nl k);rw[<-P,<-Q];rw[<-P,<-J]at l;rw[<-Q,<-J]at p;rw[<-J]at y;clear c q P Q J;go_wp2_with fail;refine y.out.mono ?_;rintro e w3 ⟨rfl,H⟩;have T3:=HT.out.block (H.block _ (by omega));have K:Bl w w3:=B.trans (H.mono (by omega));have s3:w.heap.size+1<=w3.heap.size:=by have:=H.size;omega
   clear y ck E cg H HT;cases X<;>cases Y<;>cases V<;>(go_wp2;go_roundw;(case rel=>exact⟨i+1,by omega,by go_num,by rw[l.out];rfl,by rw[p.out];rfl,K,T3,s3⟩);(case measure=>simp[intOf];omega))
  have⟨hge,him⟩:¬(i:Int)<m/\i=m:=by omega
  subst him;have U:d.kids.take i=d.kids:=by rw[D.out,List.take_length]
  rw[U];by_cases e2:d.kind=2
  ·have q2:((d.kind:Int)==2)=true:=by simp[e2]
   have z:=hyd (I.out.2.2.1 e2);clear c U;go_wp2;go_ret;exact⟨YN z.out.symm,B⟩
  have q2:((d.kind:Int)==2)=false:=by simp;omega
  have z:=hyd (I.out.2.1 (by omega));clear c U;go_wp2;go_ret;exact⟨YN z.out.symm,B⟩
theorem JI (tb:Nat) (T:Nat->Nd) (N n:Nat) (w:World) (H:N<=1000000) (z:n<N) (y:TR tb T N w):
  Cp 201 #[pT tb,I6 n] w λe w'=>e=.returned (.bool (decide ((T n).kind=1/\(T n).kids=[])))/\w'=w:=by
 obtain⟨p,nc,c0,b⟩:=y;obtain⟨nb,i,l,m,o,e,r,_,_,_⟩:=b n z;subst e;have c:=r 0 _ rfl;have g:=r 2 _ rfl;have h:(n:Int)<N:=by omega
 obtain⟨d,f⟩:=nam (T n);rw[<-f]at c g ⊢;simp only[Nat.add_zero]at c;clear b r f;by_cases h1:d.kind=1
 ·have j:((d.kind:Int)==1)=true:=by simp[h1]
  by_cases h2:d.kids=[]
  ·have k:((d.kids.length:Int)==0)=true:=by simp[h2]
   have a:Hid (decide (d.kind=1/\d.kids=[])=true):=by show _=_;simp[h1,h2]
   clear h1 h2;go_enter Tryz.func201,Tryz.ntmps201;go_wp2;go_ret;exact⟨YN a.out.symm,rfl⟩
  have k:((d.kids.length:Int)==0)=false:=by
   have:d.kids.length≠0:=λe=>h2 (List.eq_nil_of_length_eq_zero e)
   simp;exact h2
  have a:Hid (decide (d.kind=1/\d.kids=[])=false):=by show _=_;simp[h2]
  clear h1 h2;go_enter Tryz.func201,Tryz.ntmps201;go_wp2;go_ret;exact⟨YN a.out.symm,rfl⟩
 have j:((d.kind:Int)==1)=false:=by simp;omega
 have a:Hid (decide (d.kind=1/\d.kids=[])=false):=by show _=_;simp[h1]
 clear h1;go_enter Tryz.func201,Tryz.ntmps201;go_wp2;go_ret;exact⟨YN a.out.symm,rfl⟩
end
section
open Bm
variable {l:List (N_)}{K b c d k:Nat}{F:N_}
theorem NG {a:Nat} (y:b<K) (z:d<K) (h:a*K+b=c*K+d):a=c/\b=d:=by
 have h1:(a*K+b)/K=a:=by rw[Nat.mul_comm,Nat.mul_add_div (by omega),Nat.div_eq_of_lt y,Nat.add_zero]
 have h2:(c*K+d)/K=c:=by rw[Nat.mul_comm,Nat.mul_add_div (by omega),Nat.div_eq_of_lt z,Nat.add_zero]
 have:a=c:=by rw[<-h1,<-h2,h]
 subst this;exact⟨rfl,by omega⟩
theorem WS.det {A:(N_)->Nat->N_}{ls:List Nat}{s:Nat}{t:List Int} (h:WS A F ls s k l t):
  ∀ {H z:Nat}{y:List (N_)}{t':List Int},WS A F ls H z y t'->t.length=t'.length->l=y/\t=t':=by
 induction h with
 |first=>
  intro H z y t' c a
  induction c with
  |first=>exact⟨rfl,rfl⟩
  |kind h hf hb hr ih=>simp at a
  |set h hs ih=>exact ih a
 |kind h hf hb hr ih=>
  rename_i s k l t f b;intro H z y t' c a
  induction c with
  |first=>simp at a
  |kind h2 hf2 hb2 hr2 ih2=>
   rename_i n j m o i g;simp only[Zl,List.length_singleton,Nat.add_right_cancel_iff]at a;obtain⟨rfl,rfl⟩:=ih h2 a;have e:=h.size.2.2.1;have e2:=h2.size.2.2.1;have k1:=(Zi.1 hb).1;have d:=(Zi.1 hb2).1;obtain⟨rfl,rfl⟩:=NG k1 d (e.symm.trans e2);rw[hf]at hf2;rw[hb]at hb2;cases hf2;cases hb2;exact⟨rfl,rfl⟩
  |set h2 hs ih2=>exact ih2 a
 |set h hs ih=>exact λc a=>ih c a
theorem WS.upto {A:(N_)->Nat->N_}{ls:List Nat}{s:Nat}{t:List Int} (h:WS A F ls s k l t) (n:Nat) (y:n<t.length):
  ∃s' k' l' t' f b,WS A F ls s' k' l' t'/\t'.length=n/\l'[s']?=some f/\ls[k']?=some b/\Xz l' (A f b)<200:=by
 induction h with
 |first=>simp at y
 |kind h hf hb hr ih=>
  rename_i s k l t f b;simp only[Zl,List.length_singleton]at y;by_cases e:n=t.length
  ·exact⟨s,k,l,t,f,b,h,e.symm,hf,hb,hr⟩
  exact ih (by omega)
 |set h hs ih=>exact ih y
theorem WS.no_more {A:(N_)->Nat->N_}{ls:List Nat}{t:List Int} (H:0<ls.length) (h:WS A F ls l.length 0 l t)
  {s k:Nat}{y:List (N_)}{z:List Int}{f:N_}{b:Nat} (h2:WS A F ls s k y z) (Z:z.length=t.length) (Y:y[s]?=some f) (J:ls[k]?=some b):False:=by
 obtain⟨rfl,rfl⟩:=h2.det h Z;have a:=h.size.2.2.1;have e2:=h2.size.2.2.1;have k1:=(Zi.1 J).1;obtain⟨e,_⟩:=NG k1 H (e2.symm.trans a);have:=(Zi.1 Y).1;omega
theorem WS.not_both {A:(N_)->Nat->N_}{ls:List Nat}{t:List Int} (H:0<ls.length) (h:WS A F ls l.length 0 l t)
  {s k:Nat}{z:List (N_)}{Y:List Int}{f:N_}{b:Nat} (h2:WS A F ls s k z Y) (J:z[s]?=some f) (y:ls[k]?=some b) (Z:200<=Xz z (A f b)):False:=by
 rcases Nat.lt_trichotomy Y.length t.length with g|i|e
 ·obtain⟨p,m,o,q,f',b',h3,d,c,a,j⟩:=h.upto _ g;obtain⟨rfl,rfl⟩:=h3.det h2 d;have k1:=(Zi.1 y).1;have n:=(Zi.1 a).1;obtain⟨rfl,rfl⟩:=NG n k1 (h3.size.2.2.1.symm.trans h2.size.2.2.1);rw[J]at c;rw[y]at a;cases c;cases a;omega
 ·exact WS.no_more H h h2 i J y
 obtain⟨p,m,o,q,f',b',h3,d,c,a,_⟩:=h2.upto _ e;exact WS.no_more H h h3 d c a
theorem WS.one_end {A:(N_)->Nat->N_}{ls:List Nat}{y:List (N_)}{t z:List Int} (H:0<ls.length) (h:WS A F ls l.length 0 l t) (h2:WS A F ls y.length 0 y z):l=y/\t=z:=by
 rcases Nat.lt_trichotomy z.length t.length with e|f|d
 ·obtain⟨j,g,i,k,f',b',h3,c,b,a,_⟩:=h.upto _ e;exact(WS.no_more H h2 h3 c b a).elim
 ·exact h.det h2 f.symm
 obtain⟨j,g,i,k,f',b',h3,c,b,a,_⟩:=h2.upto _ d;exact(WS.no_more H h h3 c b a).elim
open Go.RowKit
def GL (gb P R:Nat) (w:World):Prop:=(∃a c,w.cell? ⟨gb,0,none⟩=some (.slice a R c))/\∃a c,w.cell? ⟨gb,1,none⟩=some (.slice a P c)
theorem Lq (gb P R:Nat) (z:Option Addr) (J:Nat) (f:N_) (w:World) (Y:P<=1000000) (Z:R<=1000000) (H:GL gb P R w) (y:BR z f (P+R) w):
  Cp 57 #[pT gb,.slice z (P+R) J] w λe w'=>e=.returned (I6 (To (λr=>f (P+r)) R 0))/\w'=w:=by
 obtain⟨⟨l,x0,c0⟩,m,x1,c1⟩:=H;obtain⟨V,d⟩:=nam (To (λr=>f (P+r)) R 0);rw[<-d];have b:=hyd d;have i:=hyd y;clear d y;go_enter Tryz.func57,Tryz.ntmps57;go_wp2
 go_loop [5] (λx=>∃(u r:Nat),u+r=R/\x=I6 r/\Hid (V=To (λr=>f (P+r)) u r)) (λx=>R-(intOf x).toNat)
 ·exact⟨R,0,rfl,rfl,b⟩
 clear b;obtain⟨u,r,n,rfl,b⟩:=hrel;by_cases k:r<R
 ·have h:(r:Int)<R:=by omega
  rcases u with _|u
  ·omega
  obtain⟨g,o,j,c⟩:=i.out (P+r) (by omega);subst j;cases hf:f (P+r)
  ·rw[hf]at c;have a:Hid (V=To (λr=>f (P+r)) u (r+1)):=by show _=_;rw[b.out,To,hf];rfl
   clear b hf;go_wp2
   go_round
   ·exact⟨u,r+1,by omega,by go_num,a⟩
   simp[intOf];omega
  rw[hf]at c;have a:Hid (V=r):=by show _=_;rw[b.out,To,hf];rfl
  clear b hf;go_wp2;go_ret;exact⟨YY a.out.symm,rfl⟩
 have⟨hge,hu0⟩:¬(r:Int)<R/\u=0:=by omega
 subst hu0;have a:Hid (V=-1):=b;go_wp2;go_ret;exact⟨YY a.out.symm,rfl⟩
theorem Ss (gb P R:Nat) (w:World) (z:P<=1000) (H:R<=1000) (y:GL gb P R w):
  Cp 52 #[pT gb] w λe w'=>e=.returned (.slice (some (a_ w.heap.size 0)) (P+R) (P+R))/\TC w.heap.size (bl (λ_=>false) (P+R)) w'/\Bl w w'/\w.heap.size+1<=w'.heap.size:=by
 obtain⟨⟨c,x0,c0⟩,d,x1,c1⟩:=y;have b:(Instr.makeSlice 78 (I6 ((P:Int)+(R:Int))) (I6 ((P:Int)+(R:Int)))).run Tryz.prog w.drew=.ok (.slice (some (a_ w.heap.size 0)) (P+R) (P+R)) (w.drew.alloc (.cells (bl (λ_=>false) (P+R)).toArray 4)):=by
  have:=Ou w.drew (P+R) (by omega);rw[Int.natCast_add]at this;exact this
 obtain⟨W,a⟩:=nam (w.drew.alloc (.cells (bl (λ_=>false) (P+R)).toArray 4));rw[<-a]at b;have T:TC w.heap.size (bl (λ_=>false) (P+R)) W:=by rw[a];exact TC.boxed w.drew _ _
 have B:Bl w W:=by rw[a];exact(Zk _ _).drew.trans (box_bel w.drew _)
 have s:w.heap.size+1<=W.heap.size:=by rw[a];simp
 clear a;go_enter Tryz.func52,Tryz.ntmps52;go_wp2;refine wp_region_still_tail 11 (by kernel_rfl) (by kernel_rfl) ?_;simp only[ZK,List.take_zero,ZL,Zw];change wpStill _ _ w.drew (λa'=>wpList _ _ _ _ a' w.drew) _ _;have f:=c0;have g:=c1
 repeat still_step
 refine wpStill_nil ?_;go_wp2;rw[b];go_wp2;go_ret;exact⟨rfl,T,B,s⟩
end
end Go.Proofs.YtoaaklhpmhjhkaaGreat
