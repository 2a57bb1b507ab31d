import Derived.Test.YtoaaklhpmhjhkaaGreatC17
set_option maxRecDepth 100000
set_option maxHeartbeats 4000000
set_option linter.all false
namespace Go.Proofs.YtoaaklhpmhjhkaaGreat
open Go.Proofs.Tryz
section
open Go.RowKit
open Bm
def LB(la:Option Addr)(ls:List Nat)(w:World):Prop:=∀(k b:Nat),ls[k]?=some b->b<256/\∃blk off,la=some ⟨blk,off,none⟩/\w.cell? ⟨blk,off+k,none⟩=some (.int .u8 b)
variable {a:Act}{ops:Array Oper}{Q:Exit->Act->World->Prop}{l:List (N_)}{lc ll ll' ln ln':List Int}{kids:List Nat}{rest:List Oper}{L xs:List Value}{K N P b base base' cap fuel g gb k mb n nb size t tb:Nat}{F:N_}{f:Nat->Int}{S S' S1 S2:Nat->Prop}{ob:Obj}{o op:Oper}{ad ba ha:Option Addr}{v v1 v2 vb vc vh vk vl vn vr vt:Value}{W W0 w w' w'' w1 w2 w5:World}
def LB.below{z:Option Addr}{ls:List Nat}(h:LB z ls w)(H:Bl w w'):LB z ls w':=λk b d=>by
 let⟨h1,blk,a,e,c⟩:=h k b d;refine⟨h1,blk,a,e,?_⟩;rw[H.cell (p:=(a_ blk (a+k))) (Ze w _ c)];exact c
structure NR (nb:Nat) (ha:Option Addr) (hc P:Nat) (hs:Nat->Nat->Bool) (ba:Option Addr) (bc:Nat) (bh:Nat->Nat->Bool) (F:Nat->Bool) (w:World):Prop where
 c0:w.cell? ⟨nb,0,none⟩=some (.slice ha P hc)
 c1:w.cell? ⟨nb,1,none⟩=some (.slice ba P bc)
 f:w.rangeAt nb 2 (bl F 104)
 h:HS ha hs P w
 b:BH ba bh P w
variable {bh hs:Nat->N_}
def NR.below{J:Nat}{H:Nat}(h:NR nb ha J P hs ba H bh F w)(z:Bl w w'):NR nb ha J P hs ba H bh F w':=by
 have a:=Ze w _ h.c0;have e:∀k,w'.cell? (a_ nb k)=w.cell? (a_ nb k):=λk=>z.cell (p:=(a_ nb k)) a
 exact⟨by rw[e];exact h.c0,by rw[e];exact h.c1,λj v c=>by rw[e];exact h.f j v c,h.h.below z,h.b.below z⟩
def LG:List Value:=[.int .i64 0,.slice none 0 0,.slice none 0 0]
def NT(w:World):(zeroValue 146).run prog w=.ok (.agg #[I6 0,sN,sN]) w:=Qk
def Wx:(prog.info? 146).map (·.size)=some 3:=Qk
structure EX (K:Nat) (vs vt:Value) (l:List (Nat->Bool)) (t:List Int) (w w':World):Prop where
 g:GN (w.heap.size+1) (w.heap.size+2) K vs vt l w'
 t:OwnL (w.heap.size+2) vt t w'
 ne:∀k,vs.ownBlock=some k->vt.ownBlock≠some k
 b:Below w.heap.size w w'
 z:TC w.heap.size LG w'
def EX.below{vs:Value}{t:List Int}(h:EX K vs vt l t w w')(H:Bl w' w''):EX K vs vt l t w w'':=
 ⟨h.g.below H,h.t.below H,h.ne,h.b.trans (H.mono h.b.size),h.z.below H⟩
def AN(A:(Nat->Bool)->Nat->Nat->Bool)(F:Nat->Bool)(ls:List Nat)(w:World)(e:Ending)(w':World):Prop:=
 Below w.heap.size w w' /\
 ((∃vs vt l t,e=.returned (.tuple #[.agg #[.int .i64 ls.length,vs,vt],.int .i64 0])/\WU A F ls l.length 0 l t/\XL w.heap.size vs l w'/\OwnL w.heap.size vt t w') \/
  (e=.returned (.tuple #[.agg LG.toArray,.int .i64 8])/\∃s k l t f b,WU A F ls s k l t/\l[s]?=some f/\ls[k]?=some b/\200<=Xp l (A f b)))
def Ip(nb:Nat)(ha:Option Addr)(hc P:Nat)(hs:Nat->N_)(ba:Option Addr)(bc:Nat)(bh:Nat->N_)(F:N_)(la:Option Addr)(lc:Nat)(ls:List Nat)(w:World)(hP:P<=96)(bK:ls.length<=256)(hN:NR nb ha hc P hs ba bc bh F w)(hL:LB la ls w):
  Cp 66 #[pT nb,.slice la ls.length lc] w (AN (λf b=>YC hs bh f b P) F ls w):=by
 have hz:=NT;have bd:Hid (∀w',Bl w w'->NR nb ha hc P hs ba bc bh F w'):=λw' h=>hN.below h
 have bb:Hid (∀w',Bl w w'->LB la ls w'):=λw' h=>hL.below h
 have aH:=Ze w _ hN.c0;obtain⟨A,hA⟩:∃A:(N_)->Nat->N_,A=λf b=>YC hs bh f b P:=⟨_,rfl⟩
 rw[<-hA];have a8:Hid (∀(f:N_) (b:Nat) (W:World),b<256->Bl w W->Cp 128 #[pT nb,.agg (bl f 104).toArray,.int .u8 b] W λe w'=>e=.returned (.agg (bl (A f b) 104).toArray)/\Bl W w'):=λf b W hb hW=>by
  have h1:=hN.below hW;rw[hA];exact Dy nb ha hc P hs ba bc bh f b W hP hb h1.c0 h1.c1 h1.h h1.b
 clear hA hN hL;obtain⟨K,hK⟩:∃K,K=ls.length:=⟨_,rfl⟩;have HK:Hid (K=ls.length):=hK;rw[<-hK]at bK ⊢;obtain⟨W1,aj⟩:∃W,W=w.alloc (.cells #[I6 0,sN,sN] 146):=⟨_,rfl⟩;obtain⟨B,aa⟩:∃W,W=W1.alloc (.cells #[I6 (K:Int),sN,sN] 146):=⟨_,rfl⟩;have ak:W1.heap.size=w.heap.size+1:=by rw[aj];simp
 have hs2:B.heap.size=w.heap.size+2:=by rw[aa];simp[ak]
 have S0:EX K (sN) (sN) [] [] w B:=by
  have T1:TC w.heap.size LG (w.alloc (.cells #[I6 0,sN,sN] 146)):=TC.boxed w LG 146;have T2:=TC.boxed W1 [I6 (K:Int),sN,sN] 146;have x1:=box_bel w (.cells #[I6 0,sN,sN] 146);have x2:=box_bel W1 (.cells #[I6 (K:Int),sN,sN] 146);unfold Bl at x1 x2;rw[<-aj]at T1 x1;rw[show([I6 (K:Int),sN,sN]:List Value).toArray=#[I6 (K:Int),sN,sN] from rfl,<-aa,ak]at T2;rw[<-aa,ak]at x2;exact⟨⟨T2,XL.nil _ _⟩,OwnL.nil _ _,λk hk=>(by cases hk),x1.trans (x2.mono Qo),T1.block (x2.block _ Qo)⟩
 have aI:=(bd B S0.b).f;have aN:Hid (B=(w.alloc (.cells #[I6 0,sN,sN] 146)).alloc (.cells #[I6 (K:Int),sN,sN] 146)):=by show _=_;rw[aa,aj]
 have aM:Hid (EX K (sN) (sN) [] [] w B):=S0;have aP:Hid (B.heap.size=w.heap.size+2):=hs2;have g1:=(S0.g.c 1 _ rfl).1;have bH:(K:Int)<=256:=Qo
 clear aj aa ak hs2 S0 hK;go_enter func66,ntmps66;go_wp2;rw[<-aN.o];apply wp_region_any Qk;change wpAny _ _ _ _ 10 _ _ B.drew;apply tJ 0
 apply tJ 2
 apply tJ 3
 apply tJ 4
 obtain⟨E,n⟩:∃E,E=B.drew.alloc (.cells (bl F 104).toArray 135):=⟨_,rfl⟩;have af:E.rangeAt B.drew.heap.size 0 (bl F 104):=by rw[n];exact(TC.boxed B.drew (bl F 104) 135).range
 have x3:Bl B E:=by rw[n];exact(Zk B.heap.size B).drew.trans (show Below B.heap.size B.drew _ from box_bel B.drew _)
 have u:=aM.o.below x3;have q4:B.drew.cell? (a_ (w.heap.size+1) 1)=some (sN):=g1;have bz:E.cell? (a_ (w.heap.size+1) 1)=some (sN):=(u.g.c 1 _ rfl).1;refine Sl (fuel:=3) 1 5 6 (o4:=?o4) (o5:=?o5) (o6:=?o6) (v4:=sN) (v5:=.agg (bl F 104).toArray) (v6:=.slice (some (a_ B.drew.heap.size 0)) 1 1) (L:=#[true,true,true,true,true,true,true,false,false,false]) (A:=?A) (w':=E)
  ?h4 ?h5 ?h6 ?g4 ?g5 ?g6 ?r0 ?r1 ?r2 ?r3 ?r4 ?r5 ?x4 ?y4 ?z4 ?x5 ?y5 ?x6 ?y6 ?z6 ?l1 ?l2 ?l3 ?f1 ?f2 ?f3 ?fin
 case h4=>simp only[gel];rfl
 case h5=>simp only[gel];rfl
 case h6=>simp only[gel];rfl
 case g4=>rfl
 case g5=>rfl
 case g6=>rfl
 case r0=>kernel_rfl
 case r1=>kernel_rfl
 case r2=>kernel_rfl
 case r3=>kernel_rfl
 case r4=>kernel_rfl
 case r5=>kernel_rfl
 case x4=>go_simp
 case y4=>simp only[psm];go_simp
 case z4=>clear n;simp only[psm];go_simp
 case x5=>exact XJ 135 _ rfl nb 2 rfl (bl F 104) _ (λj v hv=>aI j v hv) u_d rfl (by rw[Y9];exact Yt)
 case y5=>exact XJ 135 _ rfl nb 2 rfl (bl F 104) _ (λj v hv=>aI j v hv) u_d rfl (by rw[Y9];exact Yt)
 case x6=>rw[n];exact VR _ rfl F rfl
 case y6=>rw[n];exact VR _ rfl F rfl
 case z6=>rw[n];exact VR _ rfl F rfl
 case l1=>kernel_rfl
 case l2=>kernel_rfl
 case l3=>kernel_rfl
 case f1=>simp only[psm];rfl
 case f2=>simp only[psm]
 case f3=>simp only[psm]
 apply We 7 rfl Qk;simp only[ZL,Zw];obtain⟨D,hD⟩:∃D,D=B.drew.heap.size:=⟨_,rfl⟩;rw[<-hD]at af ⊢;have ap:E.heap.size=w.heap.size+3:=by
  rw[n];have:=aP.o;show(B.drew.alloc _).heap.size=_;simp[this]
 have ay:Hid (E.heap.size=w.heap.size+3):=ap;have X:Hid (EX K (sN) (sN) [] [] w E):=u;have aS:=u.g.o;have ac:w.heap.size+2<=E.heap.size:=Qo
 clear g1 aI n x3 u q4 bz hD ap aN aM aP;apply Wz Qr _ _ Qr (w.heap.size+2) (sN) [] Qr aS Qs D F Qr af ac _ rfl;intro gg O w5 H a aV aF;have u:=X.o;have d:=u.g.c.block (a.block _ u.g.c.lt (λe=>by cases e));let⟨cx,bn⟩:=d 1 _ rfl;have K5:=d.set 1 Qs (sL gg (([]:List (N_)).length+1) O);have aW:=(H.blk gg rfl).1;obtain⟨W6,r⟩:∃W,W=w5.setCell (a_ (w.heap.size+1) 1) (sL gg (([]:List (N_)).length+1) O):=⟨_,rfl⟩;rw[<-r]at K5;have G:∀k,k≠w.heap.size+1->W6.heap[k]?=w5.heap[k]?:=λk hk=>by rw[r];exact Zq w5 (a_ (w.heap.size+1) 1) _ k (λe=>hk e)
 have S6:EX K (sL gg 1 O) (sN) [F] [] w W6:=by
  have hz:=ay.o;refine⟨⟨K5,H.keep (λk hk=>G k (by cases hk;show gg≠_;omega))⟩,OwnL.nil _ _,(λk _ e=>by cases e),?_,(u.z.block (a.block _ Qo (λe=>by cases e))).block (G _ Qo)⟩;rw[r];exact(u.b.grown a u.b.size (λq m=>by cases m)).setCell (p:=(a_ (w.heap.size+1) 1)) (by show w.heap.size<=w.heap.size+1;omega) _
 have ai:Hid (W6=w5.setCell (a_ (w.heap.size+1) 1) (sL gg 1 O)):=r;have U:w.heap.size+3<=W6.heap.size:=by have:=a.size;have:=ay.o;rw[r];simp[World.setCell];omega
 clear u d K5 aW r G H a aV aF af aS ac X ay;go_wp2;rw[<-ai.o];clear cx bn ai
 go_loopw [7] (λx w'=>∃(s:Nat) (vs vt:Value) (l:List (N_)) (t:List Int),x=I6 s/\Hid (WU A F ls s 0 l t)/\EX K vs vt l t w w'/\w.heap.size+3<=w'.heap.size) (λx _=>201-(intOf x).toNat)
 .exact⟨0,_,_,[F],[],rfl,WU.first,S6,U⟩
 clear S6 U;obtain⟨s,vs,vt,l,t,rfl,V,S,al⟩:=hrel;let⟨e1,e2,e3,e4,e5⟩:=V.o.size;have ae:(l.length:Int)<=200:=Qo
 let⟨ad,cap,ev,ab⟩:=S.g.o.at_;subst ev;have c1:=(S.g.c 1 _ rfl).1;by_cases aY:s<l.length
 .have aZ:(s:Int)<(l.length:Int):=Qo
  have bt:s<200:=Qo
  have aL:Hid (WU A F ls s 0 l t):=V;have ar:=al;clear V e1 e2 e3 e4 e5 ab;go_wp2
  go_loopw [33] (λx w'=>∃(k:Nat) (vs vt:Value) (l:List (N_)) (t:List Int),x=I6 k/\k<=K/\Hid (WU A F ls s k l t)/\s<l.length/\EX K vs vt l t w w'/\w.heap.size+3<=w'.heap.size) (λx _=>K-(intOf x).toNat)
  .exact⟨0,_,vt,l,t,rfl,Qo,aL,aY,S,ar⟩
  clear S aL c1 ar al aY aZ ae;obtain⟨k,vs,vt,l,t,rfl,hk,V,ah,S,al⟩:=hrel;let⟨e1,e2,e3,e4,e5⟩:=V.o.size;by_cases bI:k<K
  .have bC:(k:Int)<K:=Qo
   obtain⟨f,hf⟩:∃f,l[s]?=some f:=⟨l[s],Zd ah⟩;obtain⟨b,aD⟩:∃b,ls[k]?=some b:=⟨ls[k]'(by have:=HK.o;omega),Zd _⟩;obtain⟨aC,blk,bJ,rfl,cb⟩:=bb.o wr S.b k b aD;let⟨ad,cap,ev,ab⟩:=S.g.o.at_;let⟨gk,bo,rf⟩:=ab s f hf;subst bo;subst ev;have c1:=(S.g.c 1 _ rfl).1;have bD:(s:Int)<(l.length:Int):=Qo
   have ae:(l.length:Int)<=200:=Qo
   have aJ:Hid (Cp 128 #[pT nb,.agg (bl f 104).toArray,.int .u8 b] wr λe w'=>e=.returned (.agg (bl (A f b) 104).toArray)/\Bl wr w'):=a8.o f b wr aC S.b;have Hf:Hid (l[s]?=some f):=hf;have aO:Hid (ls[k]?=some b):=aD;have HS:Hid (EX K (sL gk l.length cap) vt l t w wr):=S;clear S hf aD ab e1 e2 e3 e4 e5;go_wp2_with (first|(with_reducible apply gld 135;refine Zb rfl 135 _ rfl gk (s*104) rfl (bl f 104) _ rf u_d rfl (by rw[Y9];exact Yt) ?_));apply aJ.o.mono;rintro en w1 ⟨rfl,aA⟩;have S1:=HS.o.below aA;obtain⟨Q,hQ⟩:∃Q,Q=bl (A f b) 104:=⟨_,rfl⟩;have T1:=TC.boxed w1 (bl (λ_=>false) 104) 135;have x1:=box_bel w1 (.cells (bl (λ_=>false) 104).toArray 135);have ht:=Yc T1;have hG:=Y8 w1.heap.size (bl (A f b) 104) 0 (w1.alloc (.cells (bl (λ_=>false) 104).toArray 135));have T2:TC w1.heap.size (bl (A f b) 104) ((w1.alloc (.cells (bl (λ_=>false) 104).toArray 135)).setCells w1.heap.size 0 (bl (A f b) 104)):=by
    have:=T1.setPart 0 104 (A f b) Qo;rw[YW (g:=A f b) (λi hi=>by unfold Xi;rw[p_];rfl)]at this;exact this
   have x2:=x1.grown hG x1.size (λq m=>by cases m;omega);obtain⟨E,n⟩:∃W,W=(w1.alloc (.cells (bl (λ_=>false) 104).toArray 135)).setCells w1.heap.size 0 (bl (A f b) 104):=⟨_,rfl⟩;rw[<-n]at T2 x2;rw[<-hQ]at n ⊢;have u:=S1.below x2;have rQ:=T2.range;rw[<-hQ]at rQ;have bi:Hid (E=(w1.alloc (.cells (bl (λ_=>false) 104).toArray 135)).setCells w1.heap.size 0 Q):=n;have aw:Hid (Q.length=104):=by show _=_;rw[hQ];exact Y9 _ _
   have be:Hid (Q.toArray.all (·.oneCell')=true):=by show _=true;rw[hQ];exact YJ _ _
   have bv:=aA.size;have ap:=x2.size;have bE:w.heap.size+3<=E.heap.size:=Qo
   have aK:Hid (Cp 129 #[.pointer (some (a_ (w.heap.size+1) 0)),.agg Q.toArray] E (RO (w.heap.size+1) (w.heap.size+2) K (sL gk l.length cap) vt l (A f b) E)):=by
    rw[hQ];exact Iw (w.heap.size+1) (w.heap.size+2) K _ vt l (A f b) E u.g Qo Qo Qo
   have X:Hid (EX K (sL gk l.length cap) vt l t w E):=u;have bw:=So;clear S1 u T1 T2 x1 x2 hG n hQ aA HS aJ rf cb c1 bv ap;go_wp2_with (first|(with_reducible apply gst 135;apply Za rfl 135 _ _ rfl w1.heap.size 0 Q.toArray rfl rfl (by simpa[aw.o]using ht) (by simpa[aw.o]using Yt) be.o;rw[Zc,<-bi.o])|(with_reducible apply gld 135;refine Zb rfl 135 _ rfl w1.heap.size 0 rfl Q _ rQ u_d rfl (by rw[aw.o];exact Yt) ?_));apply aK.o.mono;rintro en J ⟨aq,rfl,G4,B4,bu,k4,o4⟩;have u:=X.o;obtain⟨R,hR⟩:∃R,R=Xp l (A f b):=⟨_,rfl⟩;have HR:Hid (R=Xp l (A f b)):=hR;have aT:=Kb l (A f b);have ao:=u.t.blk;have N:EX K aq vt (WK l (A f b)) t w J:=by
    refine⟨G4,u.t.keep (λq m=>?_),λq m e=>?_,u.b.trans (B4.mono Qo),u.z.block (B4.block _ Qo)⟩
    .exact k4 q (ao q m).2 (λe=>by have:=(ao q m).1;omega) (λe=>u.ne q e m)
    rcases o4 q m with h|h
    .exact u.ne q h e
    have:=(ao q e).2;omega
   rw[<-hR]at aT ⊢;have bF:w.heap.size+3<=J.heap.size:=Qo
   have bB:R<201:=by
    have h1:=Ol l (A f b);have h2:=TU l (A f b);rw[<-hR]at h1;omega
   clear hR u X G4 B4 bu k4 o4 ao aK rQ;by_cases Z:200<=R
   .have az:(200:Int)<=R:=Z;have tz:=N.z.there;obtain⟨M,hM⟩:∃M,M=LG:=⟨_,rfl⟩;have hG:=Y8 w.heap.size LG 0 J;have ag:=Zo J w.heap.size 0 LG tz;have y:=ZF (P:=prog) (J.setCells w.heap.size 0 LG) w.heap.size 0 146 LG _ ag u_s rfl Wx;have BX:=N.b.grown hG N.b.size (λq m=>by cases m;omega);obtain⟨WX,I⟩:∃W,W=J.setCells w.heap.size 0 LG:=⟨_,rfl⟩;rw[<-I]at y BX;have ax:Hid (WX=J.setCells w.heap.size 0 [I6 0,sN,sN]):=I;have Y:Hid ((loadVar 146 (a_ w.heap.size 0)).run prog WX=.ok (.agg LG.toArray) WX):=y;have bA:J.there w.heap.size 0 3:=tz;clear hM hG ag y I N tz;go_wp2_with (first|(with_reducible apply gst 146;refine Ya.out ?_));refine⟨?_⟩;apply Za rfl 146 _ _ rfl w.heap.size 0 #[I6 0,sN,sN] rfl rfl bA Wx (by simp[Value.oneCell']);rw[Zc,<-ax.o];go_wp2;apply Zr (v:=.tuple #[.agg LG.toArray,I6 8]) (XG results66 rfl Y.o rfl) rfl;exact⟨BX,Or.inr ⟨rfl,s,k,l,t,f,b,V.o,Hf.o,aO.o,by rw[<-HR.o];exact Z⟩⟩
   have az:¬(200:Int)<=R:=Z;have c2:=(N.g.c 2 _ rfl).1;let⟨ta,au,et,_⟩:=N.t.il;have bm:Hid (vt=.slice ta t.length au):=et;rw[et]at c2;have hx:=box_bel J (.cells #[I6 R] 3);have aB:=N.t.below hx;have aH:(J.alloc (.cells #[I6 R] 3)).cell? (a_ J.heap.size 0)=some (I6 R):=by rw[Zm];rfl
   have ac:w.heap.size+2<=(J.alloc (.cells #[I6 R] 3)).heap.size:=by have:=hx.size;omega
   have bf:Hid (EX K aq vt (WK l (A f b)) t w J):=N;have a7:t.length<=1000000:=by
    let⟨a1,a2,a3,a4,a5⟩:=V.o.size;have h1:s*ls.length<=200*256:=dP Qo (by have:=HK.o;omega);omega
   rw[et]at aB;clear N hx et;go_wp2_with (first|(at_builtin;apply Bm.wpList_append_int Qr _ _ Qr (w.heap.size+2) (.slice ta t.length au) t Qr aB a7 J.heap.size R Qr aH ac _ rfl;intro g T w5 H a aE aF;refine Ya.out ?_));refine⟨?_⟩
   (try simp only[psm])
   have N:=bf.o;have x4:=box_bel J (.cells #[I6 R] 3);have C:=N.below x4;have aU:=bm.o;rw[<-aU]at a aE;have am:=N.t.blk;have d:=C.g.c.block (a.block _ C.g.c.lt (λe=>by have:=(am _ e.symm).1;omega));let⟨cy,bG⟩:=d 2 _ rfl;have K6:=d.set 2 Qs (sL g (t.length+1) T);obtain⟨W6,r⟩:∃W,W=w5.setCell (a_ (w.heap.size+1) 2) (sL g (t.length+1) T):=⟨_,rfl⟩;rw[<-r]at K6;have G:∀q,q≠w.heap.size+1->W6.heap[q]?=w5.heap[q]?:=λq m=>by rw[r];exact Zq w5 (a_ (w.heap.size+1) 2) _ q (λe=>m e)
   have bp:=(H.blk g rfl).1;have an:=C.g.o.blk;have aG:=N.ne;have br:=a.size;have S6:EX K aq (sL g (t.length+1) T) (WK l (A f b)) (t++[R]) w W6:=by
    refine⟨⟨K6,(C.g.o.keep (λq m=>a.block q (an q m).2 (λe=>aG q m e.symm))).keep (λq m=>G q (λe=>by have:=(an q m).1;omega))⟩,H.keep (λq m=>G q (by cases m;show g≠_;omega)),λq m e=>?_,?_,(C.z.block (a.block _ (by have:=C.b.size;have:=x4.size;omega) (λe=>by have:=(am _ e.symm).1;omega))).block (G _ Qo)⟩
    .have e2:g=q:=Zh e;rcases aE with h|h
     .rw[e2]at h;exact aG q m h
     have:=(an q m).2;omega
    rw[r];exact(C.b.grown a C.b.size (λq m=>by have:=(am q m).1;omega)).setCell (p:=(a_ (w.heap.size+1) 2)) (by show w.heap.size<=w.heap.size+1;omega) _
   have av:Hid (WU A F ls s (k+1) (WK l (A f b)) (t++[R])):=by
    have:=WU.kind V.o Hf.o aO.o (by rw[<-HR.o];omega);rw[<-HR.o]at this;exact this
   have a6:s<(WK l (A f b)).length:=by have:=TU l (A f b);omega
   have U:w.heap.size+3<=W6.heap.size:=by have:=x4.size;rw[r];simp[World.setCell];omega
   have ai:Hid (W6=w5.setCell (a_ (w.heap.size+1) 2) (sL g (t.length+1) T)):=r;clear N C x4 aU am d K6 r G bp an aG br H a aE aF aB aH ac c2 a7;go_wp2
   (try simp only[Act.put])
   rw[<-ai.o];go_roundw
   .exact⟨k+1,aq,_,WK l (A f b),t++[R],Qg,Qo,av,a6,S6,U⟩
   simp[intOf];omega
  have bq:¬(k:Int)<K:=Qo
  have aX:k=ls.length:=by have:=HK.o;omega
  have av:Hid (WU A F ls (s+1) 0 l t):=WU.set (by have:=V.o;rw[aX]at this;exact this) ah;clear e3 aX;go_wp2;go_roundw
  .exact⟨s+1,vs,vt,l,t,Qg,av,S,al⟩
  simp[intOf];omega
 have bq:¬(s:Int)<(l.length:Int):=Qo
 have ah:s=l.length:=Qo
 have a9:Hid (WU A F ls l.length 0 l t):=by have:=V.o;rw[ah]at this;exact this
 have cG:=S.g.c;obtain⟨M,hM⟩:∃M,M=[I6 (K:Int),.slice ad l.length cap,vt]:=⟨_,rfl⟩;have rM:=cG.range;have tz:wr.there w.heap.size 0 3:=S.z.there;have a0:vt.oneCell'=true:=by let⟨a1,c1,e1,_⟩:=S.t.il;rw[e1];rfl
 have hG:=Y8 w.heap.size [I6 (K:Int),.slice ad l.length cap,vt] 0 wr;have ag:=Zo wr w.heap.size 0 [I6 (K:Int),.slice ad l.length cap,vt] tz;have y:=ZF (P:=prog) (wr.setCells w.heap.size 0 [I6 (K:Int),.slice ad l.length cap,vt]) w.heap.size 0 146 [I6 (K:Int),.slice ad l.length cap,vt] _ ag u_s rfl Wx;have BX:=S.b.grown hG S.b.size (λq m=>by cases m;omega);have aQ:=S.g.o.blk;have aR:=S.t.blk;have OS:=S.g.o.grown hG (λq m e=>by have:=Zh e;have:=(aQ q m).1;omega);have OT:=S.t.grown hG (λq m e=>by have:=Zh e;have:=(aR q m).1;omega);obtain⟨WX,I⟩:∃W,W=wr.setCells w.heap.size 0 [I6 (K:Int),.slice ad l.length cap,vt]:=⟨_,rfl⟩;rw[<-I]at y BX OS OT;have ax:Hid (WX=wr.setCells w.heap.size 0 [I6 (K:Int),.slice ad l.length cap,vt]):=I;have Y:Hid ((loadVar 146 (a_ w.heap.size 0)).run prog WX=.ok (.agg #[I6 (K:Int),.slice ad l.length cap,vt]) WX):=y;have bj:Hid ((#[I6 (K:Int),.slice ad l.length cap,vt]:Array Value).all (·.oneCell')=true):=by
  show([I6 (K:Int),.slice ad l.length cap,vt]:List Value).toArray.all (·.oneCell')=true;rw[gy];simp only[dD,List.all_nil,a0];rfl
 have HO:Hid (XL w.heap.size (.slice ad l.length cap) l WX/\OwnL w.heap.size vt t WX/\Bl w WX):=⟨Nb OS Qo,OT.mono Qo,BX⟩;clear hM hG ag y I S BX aQ aR OS OT cG V e1 e2 e3 e4 e5 ab ah;go_wp2_with (first|(with_reducible apply gld 146;refine Ya.out ?_));refine⟨?_⟩;apply Zb rfl 146 _ rfl (w.heap.size+1) 0 rfl [I6 (K:Int),.slice ad l.length cap,vt] _ rM u_s rfl Wx
 (try simp only[psm])
 apply Za rfl 146 _ _ rfl w.heap.size 0 #[I6 (K:Int),.slice ad l.length cap,vt] rfl rfl tz Wx bj.o;rw[Zc,<-ax.o];go_wp2;apply Zr (v:=.tuple #[.agg #[I6 (K:Int),.slice ad l.length cap,vt],I6 0]) (XG results66 rfl Y.o rfl) rfl;let⟨o1,o2,o3⟩:=HO.o;exact⟨o3,Or.inl ⟨_,vt,l,t,by rw[<-HK.o],a9.o,o1,o2⟩⟩
def J6(es:Nat->Rx):∀n p,p<Y4 es n->∃k,k<n/\Y4 es k<=p/\p<Y4 es (k+1):=by
 intro n
 induction n with
 |zero=>intro p a;simp[Y4]at a
 |succ n ih=>
  intro p a;rcases ZD p (Y4 es n)with h|h
  .let⟨k,h1,h2⟩:=ih p h;exact⟨k,Qo,h2⟩
  exact⟨n,Qo,h,a⟩
def Sb(es:Nat->Rx):∀n k p b,k<n->Y4 es k<=p->p<Y4 es (k+1)->XV es n p b=(es k).has (Y4 es k) p b:=by
 intro n
 induction n with
 |zero=>intro k p b a;omega
 |succ n ih=>
  intro k p b a h1 h2;simp only[XV,Uf];by_cases e:k=n
  .subst e;rw[g_]
  have:=X7 es (show k+1<=n by omega);rw[p_];exact ih k p b Qo h1 h2
def Uv(es:Nat->Rx):∀n k p q,k<n->Y4 es k<=p->p<Y4 es (k+1)->U0 es n p q=((es k).fol (Y4 es k) p q || (decide (q=96+k)&&(es k).lst (Y4 es k) p)):=by
 intro n
 induction n with
 |zero=>intro k p b a;omega
 |succ n ih=>
  intro k p q a h1 h2;simp only[U0,bhR,SO];by_cases e:k=n
  .subst e;rw[g_];simp[h2]
  have c:=X7 es (show k+1<=n by omega);rw[p_,ih k p q Qo h1 h2,Rx.lst_lt (e:=es n) (o:=Y4 es n) (p:=p) (Or.inl Qo)];simp
def VO(es:Nat->Rx):∀n q,q<96->(X6 es n q=true<->∃k,k<n/\(es k).fst (Y4 es k) q=true):=by
 intro n
 induction n with
 |zero=>intro q _;simp[X6]
 |succ n ih=>
  intro q a;simp only[X6,FR,dF a,dp,ih q a];constructor
  .rintro (⟨k,h1,h2⟩|h)
   .exact⟨k,Qo,h2⟩
   exact⟨n,Qo,h⟩
  rintro ⟨k,h1,h2⟩;by_cases e:k=n
  .subst e;exact Or.inr h2
  exact Or.inl ⟨k,Qo,h2⟩
def Sa(es:Nat->Rx):∀n r,X6 es n (96+r)=(decide (r<n)&&(es r).nul):=by
 intro n
 induction n with
 |zero=>intro r;simp[X6]
 |succ n ih=>
  intro r;simp only[X6,FR];rw[g_];by_cases e:r=n
  .subst e;simp
  rw[g_,ih r];by_cases h:r<n
  .simp[h,show r<n+1 by omega]
  simp[h,show ¬r<n+1 by omega]
structure NY (P:Nat) (hs bh:Nat->Nat->Bool) (F:Nat->Bool):Prop where
 le:P<=96
 has:∀p,p<P->∃b,b<256/\hs p b=true
 rng:∀p q,p<P->q<96->bh p q=true->q<P
 rngF:∀q,q<96->F q=true->q<P
 some:∃q,q<104/\F q=true
inductive JE (P:Nat) (bh:Nat->Nat->Bool):Nat->Prop
 |last {p r:Nat} (hp:p<P) (hr:r<8) (h:bh p (96+r)=true):JE P bh p
 |next {p q:Nat} (hp:p<P) (hq:q<P) (h:bh p q=true) (k:JE P bh q):JE P bh p
def M6(es:Nat->Rx)(n:Nat)(z:n<=8)(_hP:Y4 es n<=96):∀p,p<Y4 es n->JE (Y4 es n) (U0 es n) p:=by
 intro p d;let⟨k,b,h1,h2⟩:=J6 es n p d;have e:=Rx.rch_any (es k) (Y4 es k) p h1 (by simpa[Y4]using h2);have a:=X7 es (show k+1<=n from b);clear h1 h2 d
 induction e with
 |last h=>
  have c:=Rx.lst_rng (es k) _ _ h;refine JE.last (r:=k) (by simp only[Y4]at a;omega) Qo ?_;rw[Uv es n k _ _ b c.1 (by simp only[Y4];omega)];simp[h]
 |next h _ ih=>
  have c:=Rx.fol_rng (es k) _ _ _ h;refine JE.next (by simp only[Y4]at a;omega) (by simp only[Y4]at a;omega) ?_ ih;rw[Uv es n k _ _ b c.1 (by simp only[Y4];omega)];simp[h]
def M7(es:Nat->Rx)(n:Nat)(h1:1<=n)(J:n<=8)(z:Y4 es n<=96)(H:∀k,k<n->(es k).Full):NY (Y4 es n) (XV es n) (U0 es n) (X6 es n):=by
 refine⟨z,λp d=>?_,λp q d g h=>?_,λq g h=>?_,?_⟩
 .let⟨k,c,e,f⟩:=J6 es n p d;let⟨b,i,j⟩:=Rx.full_has (es k) (Y4 es k) p (H k c) e (by simpa[Y4]using f);exact⟨b,i,by rw[Sb es n k p b c e f];exact j⟩
 .let⟨k,c,e,f⟩:=J6 es n p d;rw[Uv es n k p q c e f]at h;have a:=X7 es (show k+1<=n from c);simp only[dp,ZS,eB]at h;rcases h with h|⟨h,_⟩
  .have:=Rx.fol_rng (es k) _ _ _ h;simp only[Y4]at a;omega
  omega
 .let⟨k,c,h2⟩:=(VO es n q g).1 h;have a:=X7 es (show k+1<=n from c);have:=Rx.fst_rng (es k) _ _ h2;simp only[Y4]at a;omega
 rcases Rx.nul_or_fst (es 0) (Y4 es 0)with h|⟨p,h⟩
 .exact⟨96,Qo,by have:=Sa es n 0;rw[eP]at this;rw[this];simp[h];omega⟩
 have l:=Rx.fst_rng (es 0) _ _ h;have a:=X7 es (show 0+1<=n from h1);have d:p<96:=by simp only[Y4]at a l;omega
 exact⟨p,Qo,(VO es n p d).2 ⟨0,Qo,h⟩⟩
def AL(t:List Int):Nat:=t.foldl (λm x=>if x=(m:Int) then m+1 else m) 1
def IH(t:List Int)(x:Int):AL (t++[x])=if x=(AL t:Int) then AL t+1 else AL t:=by unfold AL;rw[List.foldl_append];rfl
structure xw (A:(Nat->Bool)->Nat->Nat->Bool) (ls:List Nat) (s k:Nat) (l:List (Nat->Bool)) (t:List Int):Prop where
 kn:AL t=l.length
 le:∀i x,t[i]?=some x->x<=(AL (t.take i):Int)
 row:∀s',s'<s\/(s'=s/\0<k)->s'<AL (t.take (s'*ls.length))
 to:∀s' k',k'<ls.length->s'*ls.length+k'<t.length->∃f b x,l[s']?=some f/\ls[k']?=some b/\t[s'*ls.length+k']?=some x /\
  ((Yq (A f b) Ve 104=true/\x=-1)\/∃(j:Nat) (g:Nat->Bool),x=j/\l[j]?=some g/\Yq g (A f b) 104=true)
def WU.fnd{A:(N_)->Nat->N_}{ls:List Nat}{s:Nat}{t:List Int}(h:WU A F ls s k l t):xw A ls s k l t:=by
 induction h with
 |first=>exact⟨rfl,λi x h=>by simp at h,λa h=>Qo,λa m _ h=>by simp at h⟩
 |@kind s k l t f b h hf hb hr ih=>
  let⟨E,e2,z,G,H⟩:=h.size;have p:=(Zi.1 hb).1;have hs:=(Zi.1 hf).1;have I:=Ol l (A f b);have v:=TU l (A f b);have u:AL (t++[Xp l (A f b)])=(WK l (A f b)).length:=by
   rw[IH,ih.kn];rcases v with h1|⟨h1,h2⟩
   .rw[g_,h1]
   rw[dF h2,h1]
  refine⟨u,λi x e=>?_,λa w=>?_,λa m n o=>?_⟩
  .rcases ZD i t.length with o|o
   .rw[Zv o]at e;rw[gz Qo];exact ih.le i x e
   have c:i=t.length:=by
    have:=(Zi.1 e).1;simp at this;omega
   subst c;rw[ZG Qo]at e;simp at e;rw[gz Qo,gp,ih.kn,<-e];omega
  .by_cases h0:a=s/\k=0
   .obtain⟨rfl,rfl⟩:=h0;rw[gz Qo,show a*ls.length=t.length by omega,gp,ih.kn];exact hs
   have h1:a<s\/(a=s/\0<k):=Qo
   have h2:a*ls.length<=t.length:=by
    have:a*ls.length<=s*ls.length:=ZQ _ Qo;omega
   rw[gz h2];exact ih.row a h1
  rw[Zl,dN]at o;rcases ZD (a*ls.length+m) t.length with h1|h1
  .let⟨f',b',x,B,C,D,q⟩:=ih.to a m n h1;refine⟨f',b',x,Ka B,C,by rw[Zv h1];exact D,?_⟩;rcases q with q|⟨j,g,c1,c2,c3⟩
   .exact Or.inl q
   exact Or.inr ⟨j,g,c1,Ka c2,c3⟩
  have c:a*ls.length+m=s*ls.length+k:=Qo
  have d:a=s/\m=k:=by
   have r:=Ps (s:=a) n;have y:=Ps (s:=s) p;rw[c]at r;exact⟨r.1.symm.trans y.1,r.2.symm.trans y.2⟩
  obtain⟨rfl,rfl⟩:=d;refine⟨f,b,Xp l (A f b),Ka hf,hb,by rw[show a*ls.length+m=t.length by omega];simp,?_⟩;cases hn:Yq (A f b) Ve 104
  .let⟨j,g,c1,c2,c3⟩:=Ak (l:=l) hn;exact Or.inr ⟨j,g,c1,c2,c3⟩
  exact Or.inl ⟨rfl,by unfold Xp;rw[dF hn]⟩
 |@set s l t h hs ih=>
  let⟨E,e2,z,G,H⟩:=h.size;refine⟨ih.kn,ih.le,λa w=>?_,ih.to⟩;by_cases h0:a<s
  .exact ih.row a (Or.inl h0)
  have d:a=s:=Qo
  subst d;rcases ey ls.length with hz|hz
  .rw[hz,Nat.mul_zero,f7];have:t=[]:=dA (by rw[z,hz];simp);have p:=ih.kn;rw[this]at p;rw[p];exact hs
  exact ih.row a (Or.inr ⟨rfl,hz⟩)
def XO(l:List (Nat->Bool))(t:List Int)(K:Nat):Aut:=⟨l.length,K,λs k=>t.getD (s*K+k) (-1),λs=>UY (λr=>(l.getD s Ve) (96+r)) 8 0⟩
def Mu(l:List (N_))(t:List Int)(K i:Nat)(_hK:0<K):fl (XO l t K) i=t.getD i (-1):=by
 unfold fl XO;simp only;rw[ed,Nat.div_add_mod]
def Mv(l:List (N_))(t:List Int)(K:Nat)(z:0<K):∀i,i<=t.length->kn (XO l t K) i=AL (t.take i):=by
 intro i
 induction i with
 |zero=>intro _;rfl
 |succ i ih=>
  intro b;have a:i<t.length:=Qo
  rw[kn,ih Qo,Mu l t K i z,List.take_succ,Zd a];simp only[Option.toList_some];rw[IH,Zf,Zd a];rfl
def KV{A:(N_)->Nat->N_}{ls:List Nat}{t:List Int}(z:0<ls.length)(h:WU A F ls l.length 0 l t):Bfs (XO l t ls.length):=by
 let⟨d,e2,f,g,j⟩:=h.size;have b:=h.fnd;have c:t.length=l.length*ls.length:=Qo
 refine⟨d,λi e=>?_,λs hs=>?_,?_⟩
 .have a:i<t.length:=by rw[c];exact e
  rw[Mu _ _ _ _ z,Mv _ _ _ z i Qo,Zf,Zd a];exact b.le i t[i] (Zd a)
 .have k:s*ls.length<=l.length*ls.length:=ZQ _ (ZM hs);show s<kn (XO l t ls.length) (s*ls.length);rw[Mv _ _ _ z _ Qo];exact b.row s (Or.inl hs)
 show kn (XO l t ls.length) (l.length*ls.length)=l.length;rw[Mv _ _ _ z _ Qo,fR Qo];exact b.kn
def NQ{f:N_}:∀u r x,r<=x->x<r+u->f x=true->UY f u r≠-1
 |0,r,x,h1,h2,_=>Qo
 |u+1,r,x,h1,h2,h=>by
  rw[UY];split
  .omega
  rename_i a;have:r≠x:=λe=>a (by rw[e];exact h)
  exact NQ u (r+1) x Qo Qo h
def xV(hs:Nat->Nat->Bool)(P:Nat)(ls:List Nat):Prop:=∀b,b<256->∃(k c:Nat),ls[k]?=some c/\∀p,p<P->hs p c=hs p b
def Bq{ls:List Nat}(z:NY P hs bh F){s k:Nat}{l:List (N_)}{t:List Int}(h:WU (λf b=>YC hs bh f b P) F ls s k l t):∀g∈l,(∃q,q<104/\g q=true)/\∀q,q<96->g q=true->q<P:=by
 induction h with
 |first=>intro g a;rw[ZC.1 a];exact⟨z.some,z.rngF⟩
 |@kind s k l t f b h hf hb hr ih=>
  intro g a;unfold WK at a;split at a
  .exact ih g a
  rename_i d;split at a
  .exact ih g a
  rcases ZU.1 a with h1|h1
  .exact ih g h1
  rw[ZC.1 h1];refine⟨?_,λq e c=>?_⟩
  .apply Classical.byContradiction;intro i;apply d;rw[WY];intro q e;cases hv:YC hs bh f b P q
   .rfl
   exact absurd ⟨q,e,hv⟩ i
  simp only[YC,fY,ZI,ZS]at c;let⟨p,j,⟨_,_⟩,h3⟩:=c;exact z.rng p q j e h3
 |set h hs ih=>exact ih
def Ra{ls:List Nat}(Z:NY P hs bh F)(hG:∀p,p<P->JE P bh p)(hR:xV hs P ls){l:List (N_)}{t:List Int}(h:WU (λf b=>YC hs bh f b P) F ls l.length 0 l t):(XO l t ls.length).Good:=by
 let⟨V,e2,W,X,Y⟩:=h.size;have T:=h.fnd;have u:=Bq Z h;have I:=h.range;have o:∀s k,s<l.length->k<ls.length->s*ls.length+k<t.length:=λs k h1 h2=>by
  have:(s+1)*ls.length<=l.length*ls.length:=ZQ _ h1;rw[dQ]at this;omega
 have B:∀s k,s<l.length->k<ls.length->(XO l t ls.length).to s k=t[s*ls.length+k]?.getD (-1):=λs k _ _=>by simp[XO,Zf]
 refine⟨λs k h1 h2=>?_,λs J G=>?_⟩
 .have C:=o s k h1 h2;rw[B s k h1 h2,Zd C];exact I _ (gA C)
 -- from a place an end can be come to
 have L:∀(p:Nat),JE P bh p->∀(s:Nat) (f:N_),l[s]?=some f->f p=true->∃w,Kd (XO l t ls.length) w/\ext (XO l t ls.length) s w≠-1:=by
  have step:∀(p:Nat),p<P->∀(s:Nat) (f:N_),l[s]?=some f->f p=true->∀(q:Nat),q<104->bh p q=true->∃(k:Nat),k<ls.length/\∃(j:Nat) (g:N_),(XO l t ls.length).to s k=j/\l[j]?=some g/\g q=true:=by
   intro p v s f d e q D H;let⟨b,Q,R⟩:=Z.has p v;let⟨k,c,y,S⟩:=hR b Q;have m:=(Zi.1 y).1;have i:=(Zi.1 d).1;have C:=o s k i m;let⟨f',b',x,M,N,O,E⟩:=T.to s k m C;rw[d]at M;rw[y]at N;cases M;cases N;have n:YC hs bh f c P q=true:=by
    simp only[YC,fY,ZI,ZS];exact⟨p,v,⟨e,by rw[S p v];exact R⟩,H⟩
   rcases E with ⟨E,_⟩|⟨j,g,c1,c2,c3⟩
   .have:=(WY _ _ _).1 E q D;rw[n]at this;cases this
   refine⟨k,m,j,g,by rw[B s k i m,O];exact c1,c2,?_⟩;rw[(WY _ _ _).1 c3 q D];exact n
  intro p U
  induction U with
  |@last p r v hr z=>
   intro s f d e;let⟨k,y,j,g,h1,h2,h3⟩:=step p v s f d e (96+r) Qo z;refine⟨[k],(Kd.nil _).cons y,?_⟩;rw[ext_cons,h1,ext_nil];show UY (λr=>(l.getD j Ve) (96+r)) 8 0≠-1;exact NQ 8 0 r Qo Qo (by rw[Zf,h2];exact h3)
  |@next p q v D z _ ih=>
   intro s f d e;let⟨k,y,j,g,h1,h2,h3⟩:=step p v s f d e q (by have:=Z.le;omega) z;let⟨w,w1,w2⟩:=ih j g h2 h3;exact⟨k::w,w1.cons y,by rw[ext_cons,h1];exact w2⟩
 have i:=J;have A:=Zd i;let⟨⟨q,D,K⟩,z⟩:=u l[s] (gA i);have:∃w,Kd (XO l t ls.length) w/\ext (XO l t ls.length) s w≠-1:=by
  rcases ZD q 96 with h1|h1
  .exact L q (hG q (z q h1 K)) s l[s] A K
  refine⟨[],Kd.nil _,?_⟩;rw[ext_nil];show UY (λr=>(l.getD s Ve) (96+r)) 8 0≠-1;apply NQ 8 0 (q-96) Qo Qo;rw[Zf,A,show 96+(q-96)=q by omega];exact K
 let⟨w,w1,w2⟩:=this;exact w2 (by rw[G w w1];exact ext_none _ _ Qo)
def Wq(w:World):(zeroValue 25).run prog w=.ok (.agg #[I6 0,sN,sN,sN]) w:=Qk
def Yg:(prog.info? 25).map (·.size)=some 4:=Qk
def kl(f:Nat->Int):List Value:=(List.range 256).map λi=>.int .i64 (f i)
def BV(f:Nat->Int):(kl f).length=256:=by simp[kl]
def Aa:(prog.info? 140).map (·.size)=some 256:=Qk
def Ay(f:Nat->Int)(k:Nat)(z:k<256)(w:World):(Instr.index 140 (.agg (kl f).toArray) (I6 k)).run prog w=.ok (I6 (f k)) w:=by
 have hs:(sizeOf 3).run prog w=.ok 1 w:=Qk
 have a:(kl f).toArray[k]?=some (I6 (f k)):=by simp[kl,z]
 have b:(part 3 (kl f).toArray (k*1)).run prog w=.ok (I6 (f k)) w:=run_part_plain w Qk (by rw[ff];exact a);simp only[Instr.index,asIntOf,fE,fV,Zu,gd underlying140,f9,hs];rw[p_,ZE];exact b
def GQ(z:op.guard=none)(x i:Operand)(Y:op.op=.index 140 x i)(f:Nat->Int)(Z:a.eval x=.agg (kl f).toArray)(k:Nat)(H:a.eval i=I6 k)(J:k<256)
  (h:wpList prog ops Q rest (a.put op.dst (I6 (f k))) w):wpList prog ops Q (op::rest) a w:=
 fU z λ_ b=>by
  unfold Oper.wp execOp;have c:=Ay f k J w;simp only[Y,Z,H,fE,c,Zu,fV];exact b _ _ h
def Xl(x:Operand)(z:o.op=.buildSlice 23 1 #[(0,x)])(v:Int)(H:a.eval x=I6 v):
  (execOp a.eval o).run prog w=.ok (.value (.slice (some (a_ w.heap.size 0)) 1 1)) (w.alloc (.cells #[I6 v] 3)):=by
 unfold execOp;have b:(Instr.buildSlice 23 1 #[(0,I6 v)]).run prog w=.ok (.slice (some (a_ w.heap.size 0)) 1 1) (w.alloc (.cells #[I6 v] 3)):=Qk
 have e:(#[((0:Nat),x)].map λ(p:Nat × Operand)=>(p.1,a.eval p.2))=#[(0,I6 v)]:=by simp[H]
 simp only[z,fE,e,b,Zu,fV]
structure MS (mb:Nat) (W0:World) (vc vl vn:Value) (lc ll ln:List Int) (w':World):Prop where
 c:TC mb [.int .i64 0,vc,vl,vn] w'
 oc:OwnL W0.heap.size vc lc w'
 ol:OwnL W0.heap.size vl ll w'
 on:OwnL W0.heap.size vn ln w'
 n1:∀k,vc.ownBlock=some k->vl.ownBlock≠some k
 n2:∀k,vc.ownBlock=some k->vn.ownBlock≠some k
 n3:∀k,vl.ownBlock=some k->vn.ownBlock≠some k
 b:Below mb W0 w'
 k:∀k,k<W0.heap.size->k≠mb->w'.heap[k]?=W0.heap[k]?
def MS.below(h:MS mb W0 vc vl vn lc ll ln w')(z:Bl w' w'')(H:mb<W0.heap.size):MS mb W0 vc vl vn lc ll ln w'':=
 ⟨h.c.below z,h.oc.below z,h.ol.below z,h.on.below z,h.n1,h.n2,h.n3,h.b.trans (z.mono (by have:=h.b.size;omega)),λk h1 h2=>by rw[z.block k (by have:=h.b.size;omega)];exact h.k k h1 h2⟩
def MS.put1{J:List Int}(h:MS mb W0 vc vl vn lc ll ln w')(Z:mb<W0.heap.size)(Y:OwnL W0.heap.size (sL g n cap) J w5)(z:(w'.alloc ob).grownBy w5 vc.ownBlock)(H:vc.ownBlock=some g\/g=(w'.alloc ob).heap.size):
  w5.cell? (a_ mb 1)=some vc/\w5.frozen? (a_ mb 1)=false/\MS mb W0 (sL g n cap) vl vn J ll ln (w5.setCell (a_ mb 1) (sL g n cap)):=by
 have x:=box_bel w' ob;have hz:(w'.alloc ob).heap.size=w'.heap.size+1:=Qs
 have a:=h.below x Z;have j:=h.oc.blk;have l:=h.ol.blk;have m:=h.on.blk;have hs:=h.b.size;have f:=a.c.block (z.block _ a.c.lt (λe=>by have:=(j _ e.symm).1;omega));let⟨c1,c2⟩:=f 1 _ rfl;have i:∀q,q≠mb->(w5.setCell (a_ mb 1) (sL g n cap)).heap[q]?=w5.heap[q]?:=λq d=>Zq w5 (a_ mb 1) _ q (λe=>d e)
 have o:=(Y.blk g rfl).1;refine⟨c1,c2,f.set 1 Qs _,Y.keep (λq d=>i q (by cases d;show g≠mb;omega)),(a.ol.grown z (λq d e=>h.n1 q e d)).keep (λq d=>i q (λe=>by have:=(l q d).1;omega)),(a.on.grown z (λq d e=>h.n2 q e d)).keep (λq d=>i q (λe=>by have:=(m q d).1;omega)),λq d e=>?_,λq d e=>?_,h.n3,?_,λq h1 h2=>?_⟩
 .have e2:=Zh d;subst e2;rcases H with h1|h1
  .exact h.n1 g h1 e
  have:=(l g e).2;omega
 .have e2:=Zh d;subst e2;rcases H with h1|h1
  .exact h.n2 g h1 e
  have:=(m g e).2;omega
 .exact(a.b.grown z (by have:=a.b.size;omega) (λq d=>by have:=(j q d).1;omega)).setCell (p:=(a_ mb 1)) (Zg _) _
 rw[i q h2,z.block q Qo (λe=>by have:=(j q e.symm).1;omega)];exact a.k q h1 h2
def MS.put2(h:MS mb W0 vc vl vn lc ll ln w')(Y:mb<W0.heap.size)(J:OwnL W0.heap.size (sL g n cap) ll' w5)(z:(w'.alloc ob).grownBy w5 vl.ownBlock)(H:vl.ownBlock=some g\/g=(w'.alloc ob).heap.size):
  w5.cell? (a_ mb 2)=some vl/\w5.frozen? (a_ mb 2)=false/\MS mb W0 vc (sL g n cap) vn lc ll' ln (w5.setCell (a_ mb 2) (sL g n cap)):=by
 have x:=box_bel w' ob;have hz:(w'.alloc ob).heap.size=w'.heap.size+1:=Qs
 have a:=h.below x Y;have j:=h.ol.blk;have l:=h.oc.blk;have m:=h.on.blk;have hs:=h.b.size;have f:=a.c.block (z.block _ a.c.lt (λe=>by have:=(j _ e.symm).1;omega));let⟨c1,c2⟩:=f 2 _ rfl;have i:∀q,q≠mb->(w5.setCell (a_ mb 2) (sL g n cap)).heap[q]?=w5.heap[q]?:=λq d=>Zq w5 (a_ mb 2) _ q (λe=>d e)
 have o:=(J.blk g rfl).1;refine⟨c1,c2,f.set 2 Qs _,(a.oc.grown z (λq d e=>h.n1 q d e)).keep (λq d=>i q (λe=>by have:=(l q d).1;omega)),J.keep (λq d=>i q (by cases d;show g≠mb;omega)),(a.on.grown z (λq d e=>h.n3 q e d)).keep (λq d=>i q (λe=>by have:=(m q d).1;omega)),λq d e=>?_,h.n2,λq d e=>?_,?_,λq h1 h2=>?_⟩
 .have e2:=Zh e;subst e2;rcases H with h1|h1
  .exact h.n1 g d h1
  have:=(l g d).2;omega
 .have e2:=Zh d;subst e2;rcases H with h1|h1
  .exact h.n3 g h1 e
  have:=(m g e).2;omega
 .exact(a.b.grown z (by have:=a.b.size;omega) (λq d=>by have:=(j q d).1;omega)).setCell (p:=(a_ mb 2)) (Zg _) _
 rw[i q h2,z.block q Qo (λe=>by have:=(j q e.symm).1;omega)];exact a.k q h1 h2
def MS.put3(h:MS mb W0 vc vl vn lc ll ln w')(Y:mb<W0.heap.size)(J:OwnL W0.heap.size (sL g n cap) ln' w5)(z:(w'.alloc ob).grownBy w5 vn.ownBlock)(H:vn.ownBlock=some g\/g=(w'.alloc ob).heap.size):
  w5.cell? (a_ mb 3)=some vn/\w5.frozen? (a_ mb 3)=false/\MS mb W0 vc vl (sL g n cap) lc ll ln' (w5.setCell (a_ mb 3) (sL g n cap)):=by
 have x:=box_bel w' ob;have hz:(w'.alloc ob).heap.size=w'.heap.size+1:=Qs
 have a:=h.below x Y;have j:=h.on.blk;have l:=h.oc.blk;have m:=h.ol.blk;have hs:=h.b.size;have f:=a.c.block (z.block _ a.c.lt (λe=>by have:=(j _ e.symm).1;omega));let⟨c1,c2⟩:=f 3 _ rfl;have i:∀q,q≠mb->(w5.setCell (a_ mb 3) (sL g n cap)).heap[q]?=w5.heap[q]?:=λq d=>Zq w5 (a_ mb 3) _ q (λe=>d e)
 have o:=(J.blk g rfl).1;refine⟨c1,c2,f.set 3 Qs _,(a.oc.grown z (λq d e=>h.n2 q d e)).keep (λq d=>i q (λe=>by have:=(l q d).1;omega)),(a.ol.grown z (λq d e=>h.n3 q d e)).keep (λq d=>i q (λe=>by have:=(m q d).1;omega)),J.keep (λq d=>i q (by cases d;show g≠mb;omega)),h.n1,λq d e=>?_,λq d e=>?_,?_,λq h1 h2=>?_⟩
 .have e2:=Zh e;subst e2;rcases H with h1|h1
  .exact h.n2 g d h1
  have:=(l g d).2;omega
 .have e2:=Zh e;subst e2;rcases H with h1|h1
  .exact h.n3 g d h1
  have:=(m g d).2;omega
 .exact(a.b.grown z (by have:=a.b.size;omega) (λq d=>by have:=(j q d).1;omega)).setCell (p:=(a_ mb 3)) (Zg _) _
 rw[i q h2,z.block q Qo (λe=>by have:=(j q e.symm).1;omega)];exact a.k q h1 h2
def Xb(E:Nat->Nat->Bool)(kf:Nat->Int)(i:Nat):List Int:=(List.range i).map λb=>idxI E (kf b).toNat
def DJ(E:Nat->N_)(kf:Nat->Int)(i:Nat):Xb E kf (i+1)=Xb E kf i++[idxI E (kf i).toNat]:=by simp[Xb,ZT]
def TD(E:Nat->N_)(kf:Nat->Int)(i:Nat):(Xb E kf i).length=i:=by simp[Xb]
variable {md:Region.Mode}
def SL{P:Program}{S:World->Prop}(i k:Nat){oi ok:Oper}{vi vk:Value}{listed L:Array Bool}{a A:Act}{w w':World}
  (Z:ops[i]?=some oi) (hk:ops[k]?=some ok) (J:oi.guard=none) (Y:ok.guard=none) (r0:Region.ready md ops listed=[i,k]) (r1:Region.ready md ops (listed.setIfInBounds i true)=[k]) (r2:Region.ready md ops (listed.setIfInBounds k true)=[i])
  (xi:(execOp a.eval oi).run P w=.ok (.value vi) w) (yi:(execOp (a.put ok.dst vk).eval oi).run P w'=.ok (.value vi) w') (xk:(execOp a.eval ok).run P w=.ok (.value vk) w') (yk:(execOp (a.put oi.dst vi).eval ok).run P w=.ok (.value vk) w')
  (l1:(listed.setIfInBounds i true).setIfInBounds k true=L) (l2:(listed.setIfInBounds k true).setIfInBounds i true=L) (f1:(a.put oi.dst vi).put ok.dst vk=A) (f2:(a.put ok.dst vk).put oi.dst vi=A) (hS:S w) (z:S w') (H:wpAnyH P md ops Q S fuel L A w'):wpAnyH P md ops Q S (fuel+2) listed a w:=by
 refine wpAnyH_all r0 Qs (λq b=>?_);rcases ZR.1 b with rfl|b
 .refine Xd Z (by simp[Region.wanted,J]) xi ⟨hS,wpAnyH_all r1 Qs (λq b=>?_)⟩;rw[ZC.1 b];refine Xd hk (by simp[Region.wanted,Y]) yk ⟨z,?_⟩;rw[l1,f1];exact H
 rw[ZC.1 b];refine Xd hk (by simp[Region.wanted,Y]) xk ⟨z,wpAnyH_all r2 Qs (λq b=>?_)⟩;rw[ZC.1 b];refine Xd Z (by simp[Region.wanted,J]) yi ⟨z,?_⟩;rw[l2,f2];exact H
def IL.heap(h:IL ad f n w)(z:∀k,k<w.heap.size->(∃o,ad=some (a_ k o))->w'.heap[k]?=w.heap[k]?):IL ad f n w':=λi g=>by
 let⟨b,c,e,d⟩:=h i g;refine⟨b,c,e,?_⟩;rw[eZ (w:=w) (a:=(a_ b (c+i))) (z b (Ze w _ d) ⟨c,e⟩)];exact d
def Um{K:Act->World->Prop}(s x:Operand)
  (ho:o.op=.call { callee:=.builtin .append,args:=#[s,x],argTypes:=#[23,23] }) (base:Nat)
  (v:Value) (l:List Int) (hs:a.eval s=v) (hown:OwnL base v l w) (hn:l.length<=1000000)
  (B:Nat) (t:Int) (hx:a.eval x=.slice (some ⟨B,0,none⟩) 1 1) (hnews:w.cell? ⟨B,0,none⟩=some (.int .i64 t)) (hbase:base<=w.heap.size) (H:Nat) (hH:w.heap.size=H)
  (h:∀g cap w',OwnL base (.slice (some ⟨g,0,none⟩) (l.length+1) cap) (l++[t]) w'->w.grownBy w' v.ownBlock->(v.ownBlock=some g\/g=H)->g<w'.heap.size->K (a.put o.dst (.slice (some ⟨g,0,none⟩) (l.length+1) cap)) w'):Oper.wp prog o a w K Q:=by
 obtain⟨i,k,c,d,e⟩:=WP;refine wp_append_lies w s x 23 ho base 3 i (.int .i64 0) 1 8 u_e k c d e rfl Qo v l.length (ints l) hs hown ⟨B,0,none⟩ 1 1 [.int .i64 t] hx rfl (λj u b=>?_) (by simp[Value.oneCell']) Qo (by unfold maxLen;omega) Qo hbase H hH ?_
 .rw[fe,Zn];cases j with
  |zero=>simp at b;subst b;exact hnews
  |succ j=>simp at b
 intro g cap w' h1 h2 h3 f;refine h g cap w' ?_ h2 h3 f;unfold OwnL;rw[ints_append,Zl];exact h1
def WI(A:Aut)(E:Nat->Nat->Bool)(i:Nat):List Int:=(List.range i).map λs=>A.vd ((reps E A.N).getD s 0)
def D7(A:Aut)(E:Nat->N_)(i:Nat):WI A E (i+1)=WI A E i++[A.vd ((reps E A.N).getD i 0)]:=by simp[WI,ZT]
def TP(A:Aut)(E:Nat->N_)(i:Nat):(WI A E i).length=i:=by simp[WI]
def Ui(rw:Nat->Nat->Int)(fs:List Nat)(s c:Nat):List Int:=(List.range c).map λj=>rw s (fs.getD j 0)
def Xq(rw:Nat->Nat->Int)(fs:List Nat)(i:Nat):List Int:=(List.range i).flatMap λs=>Ui rw fs s fs.length
def Ll(rw:Nat->Nat->Int)(fs:List Nat)(s c:Nat):Ui rw fs s (c+1)=Ui rw fs s c++[rw s (fs.getD c 0)]:=by simp[Ui,ZT]
def Sd(rw:Nat->Nat->Int)(fs:List Nat)(i:Nat):Xq rw fs (i+1)=Xq rw fs i++Ui rw fs i fs.length:=by simp[Xq,ZT]
def M9(rw:Nat->Nat->Int)(fs:List Nat)(s c:Nat):(Ui rw fs s c).length=c:=by simp[Ui]
def V8(rw:Nat->Nat->Int)(fs:List Nat)(i:Nat):(Xq rw fs i).length=i*fs.length:=by
 induction i with
 |zero=>simp[Xq]
 |succ i ih=>rw[Sd,Zl,ih,M9,du]
def Mk(A:Aut)(E:Nat->Nat->Bool)(kf:Nat->Int)(w:World)(en:Ending)(w':World):Prop:=
 ∃vc vl vn,en=.returned (.agg #[.int .i64 0,vc,vl,vn])/\OwnL w.heap.size vc (Xb (Cl (YQ A E) (cnt E A.N)) kf 256) w'/\OwnL w.heap.size vl (WI A E (cnt E A.N)) w'/\OwnL w.heap.size vn (Xq (YQ A E) (reps (Cl (YQ A E) (cnt E A.N)) A.K) (cnt E A.N)) w' /\
  (∀k,vc.ownBlock=some k->vl.ownBlock≠some k)/\(∀k,vc.ownBlock=some k->vn.ownBlock≠some k)/\(∀k,vl.ownBlock=some k->vn.ownBlock≠some k)/\Below w.heap.size w w'
def LH(gb:Nat)(A:Aut)(ta:Option Addr)(tc:Nat)(sa:Option Addr)(sc:Nat)(rl:Nat->N_)(kb:Nat)(kf:Nat->Int)(E:Nat->N_)(b1 b2:Nat)(vo vf:Value)(w:World)(hA:Aut.Small A)(hr:∀s k,s<A.N->k<A.K->-1<=A.to s k/\A.to s k<A.N)(hG:Gr gb A ta tc (.slice sa A.N sc) w)(hS:SR sa rl A.N w)(hv:∀i,i<A.N->A.vd i=UY (rl i) 8 0)(cG:w.rangeAt kb 0 (kl kf))(cH:∀b,b<256->0<=kf b/\kf b<A.K)(ho:OwnL b1 vo (UO E A.N) w)(hf:OwnL b2 vf (YS E A.N) w):
  Cp 68 #[pT gb,pT kb,.agg #[vo,vf]] w (Mk A E kf w):=by
 have hz:=Wq;have aQ:=hA.k;have b5:=cnt_le E A.N;have hn:=hA.n;have h1:(w.alloc (.cells #[vo,vf] 150)).heap.size=w.heap.size+1:=Qs
 let⟨Wa,ac⟩:=nam (w.alloc (.cells #[vo,vf] 150));let⟨Wb,ae⟩:=nam (Wa.alloc (.cells #[I6 0,sN,sN,sN] 25));let⟨W1,ab⟩:=nam (Wb.alloc (.cells #[I6 0,sN,sN,sN] 25));have za:Wa.heap.size=w.heap.size+1:=by rw[ac];simp
 have zb:Wb.heap.size=w.heap.size+2:=by rw[ae];simp[za]
 have z1:W1.heap.size=w.heap.size+3:=by rw[ab];simp[zb]
 have Ta:TC w.heap.size [vo,vf] Wa:=by rw[ac];exact TC.boxed w [vo,vf] _
 have Tb:TC (w.heap.size+1) [I6 0,sN,sN,sN] Wb:=by rw[ae,<-za];exact TC.boxed Wa [I6 0,sN,sN,sN] _
 have Tc:TC (w.heap.size+2) [I6 0,sN,sN,sN] W1:=by rw[ab,<-zb];exact TC.boxed Wb [I6 0,sN,sN,sN] _
 have xa:Bl w Wa:=by rw[ac];exact box_bel _ _
 have xb:Bl Wa Wb:=by rw[ae];exact box_bel _ _
 have xc:Bl Wb W1:=by rw[ab];exact box_bel _ _
 have B1:Bl w W1:=(xa.trans (xb.mono Qo)).trans (xc.mono Qo);have U1:=(Ta.block (xb.block _ Qo)).block (xc.block _ Qo);have U2:=Tb.block (xc.block _ Qo);have a4:=Gy gb A ta tc (.slice sa A.N sc) E b1 b2 vo vf W1 hA hr (hG.below B1) (ho.below B1) (hf.below B1);have V:Hid (Cp 132 #[pT gb,.agg #[vo,vf]] W1 λe w'=>∃v,e=.returned v/\OwnL W1.heap.size v (Xk A.K (YQ A E) (cnt E A.N*A.K)) w'/\Bl W1 w'):=a4;have a7:Hid (W1=((w.alloc (.cells #[vo,vf] 150)).alloc (.cells #[I6 0,sN,sN,sN] 25)).alloc (.cells #[I6 0,sN,sN,sN] 25)):=by show _=_;rw[ab,ae,ac]
 have HT:=hyd5 U1 U2 Tc B1 z1;have HG:Hid (∀w',Bl w w'->Gr gb A ta tc (.slice sa A.N sc) w'):=λw' h=>hG.below h
 have bL:Hid (∀w',Bl w w'->SR sa rl A.N w'):=λw' h=>hS.below h
 have bJ:Hid (∀w',Bl w w'->w'.rangeAt kb 0 (kl kf)):=λw' h j v hv=>by
  have:=cG j v hv;rw[h.cell (p:=(a_ kb (0+j))) (Ze w _ this)];exact this
 have bc:=hyd cH;have HF:Hid (∀w',Bl w w'->OwnL b2 vf (YS E A.N) w'):=λw' h=>hf.below h
 have Hv:=hyd hv;have b6:=Ze w _ hG.c0;let⟨g,aI⟩:=nam (cnt E A.N);have ai:=hyd aI;rw[<-aI]at V b5;clear hr hG hS cG cH ho hf hv h1 ac ae ab za zb z1 Ta Tb Tc xa xb xc B1 U1 U2 a4 aI;go_enter func68,ntmps68;go_wp2_with fail;rw[<-a7.o];apply V.o.mono;rintro en w2 ⟨v,rfl,aK,R⟩;let⟨ra,rc,ev,au⟩:=aK.il;rw[Nt]at ev au;subst ev;let⟨t1,t2,t3,t4,t5⟩:=HT.o;have B2:Bl w w2:=t4.trans (R.mono Qo);have c0:=(HG.o w2 B2).c0;have aA:=hyd (LD ra rc A.K g (YQ A E) w2 aQ Qo au);have a0:Hid (∀k o,ra=some (a_ k o)->w.heap.size+3<=k):=λk o e=>by
  have:=(aK.blk k (by rw[e];rfl)).1;omega
 have aX:=hyd au;have a6:Hid (TC w.heap.size [vo,vf] w2/\TC (w.heap.size+1) [I6 0,sN,sN,sN] w2/\TC (w.heap.size+2) [I6 0,sN,sN,sN] w2/\Bl w w2/\w.heap.size+3<=w2.heap.size):=⟨t1.block (R.block _ Qo),t2.block (R.block _ Qo),t3.block (R.block _ Qo),B2,by have:=R.size;omega⟩;let⟨M,hM⟩:=nam (g*A.K);have HM:=hyd hM;rw[<-hM]at aA;clear t1 t2 t3 t4 t5 B2 au aK R HT V a7;rw[<-hM];clear hM;go_wp2_with fail;apply aA.o.mono;rintro en w3 ⟨cF,cE,rfl,z,aG,I⟩;let⟨oa,oc,eo,m⟩:=z.il;rw[Xh]at eo m;let⟨fa,fc,ef,l⟩:=aG.il;rw[YH]at ef l;subst eo;subst ef;let⟨t1,t2,t3,t4,t5⟩:=a6.o;let⟨CN,aF⟩:=nam (cnt (Cl (YQ A E) g) A.K);have bI:=hyd aF;have cn:CN<=256:=by have:=cnt_le (Cl (YQ A E) g) A.K;omega
 rw[<-aF]at l ⊢;have cd:=I.size;have B3:Bl w w3:=t4.trans (I.mono Qo);let⟨mb,aq⟩:=nam (w.heap.size+2);have aB:=hyd aq;have F:mb<w3.heap.size:=Qo
 have M0:MS mb w3 (sN) (sN) (sN) [] [] [] w3:=by
  rw[aq];exact⟨t3.block (I.block _ Qo),OwnL.nil _ _,OwnL.nil _ _,OwnL.nil _ _,λk hk=>(by cases hk),λk hk=>(by cases hk),λk hk=>(by cases hk),Zk _ _,λ_ _ _=>rfl⟩
 have u1:=t1.block (I.block _ Qo);have u2:=t2.block (I.block _ Qo);have r:=aX.o.below I;have aT:=bJ.o w3 B3;have B:Hid (∀(vc vl vn:Value) (lc ll ln:List Int) (w':World),MS mb w3 vc vl vn lc ll ln w'->Bl w w'/\TC w.heap.size [vo,vf] w'/\TC (w.heap.size+1) [I6 0,sN,sN,sN] w'/\IL oa (λi=>(UO (Cl (YQ A E) g) A.K).getD i 0) A.K w'/\IL fa (λi=>(YS (Cl (YQ A E) g) A.K).getD i 0) CN w'/\IL ra (λi=>(Xk A.K (YQ A E) (g*A.K)).getD i 0) (g*A.K) w'):=λvc vl vn lc ll ln w' h=>by
  have aS:∀(ad:Option Addr) (f:Nat->Int) (n:Nat),IL ad f n w3->(∀k o,ad=some (a_ k o)->k≠mb)->IL ad f n w':=λad f n hI hk=>hI.heap (λk h1 ⟨o,e⟩=>h.k k h1 (hk k o e))
  refine⟨B3.trans (h.b.mono Qo),u1.block (h.k _ Qo Qo),u2.block (h.k _ Qo Qo),aS _ _ _ m ?_,aS _ _ _ l ?_,aS _ _ _ r ?_⟩
  .intro k o e;have:=(z.blk k (by rw[e];rfl)).1;omega
  .intro k o e;have:=(aG.blk k (by rw[e];rfl)).1;omega
  intro k o e;have:=a0.o k o e;omega
 have aY:=hyd r;have bi:Hid (w.heap.size<=w3.heap.size):=by show _<=_;omega
 have aZ:=hyd M0;let⟨L4,ao⟩:=nam (kl kf);have bK:=hyd ao;have av:Hid (L4.length=256):=by show _=_;rw[ao];exact BV _
 rw[<-ao]at aT;rw[<-aq];clear t1 t2 t3 t4 t5 z aG I m l B3 aq u1 u2 r ao aF M0 a6 aA aX cd c0;go_wp2_with (first|(with_reducible apply gld 140;refine Zb rfl 140 _ rfl kb 0 rfl L4 _ aT underlying140 rfl (by rw[av.o];exact Aa) ?_));rw[bK.o];clear aT av
 go_loopw [34] (λx w'=>∃(i:Nat) (vc:Value),i<=256/\x=I6 i/\MS mb w3 vc (sN) (sN) (Xb (Cl (YQ A E) g) kf i) [] [] w') (λx _=>256-(intOf x).toNat)
 .exact⟨0,_,Qo,rfl,aZ⟩
 clear aZ;obtain⟨i,vc,hi,rfl,Z⟩:=hrel;by_cases T:i<256
 .have bv:(i:Int)<256:=Qo
  let⟨κ,hκ⟩:=ZA (bc i T).1;have ar:κ<A.K:=by have:=(bc i T).2;omega
  have cq:(κ:Int)<(A.K:Int):=Qo
  let⟨H,T0,T1,m,l,r⟩:=B.o _ _ _ _ _ _ wr Z;let⟨gx,ox,bW,cx⟩:=m κ ar;subst bW;let⟨x,hx⟩:=nam (idxI (Cl (YQ A E) g) (kf i).toNat);have D:(UO (Cl (YQ A E) g) A.K).getD κ 0=x:=by
   rw[hx,hκ,ZE];simp[UO,Zf,ar]
  simp only[D]at cx;have bR:Hid (Xb (Cl (YQ A E) g) kf (i+1)=Xb (Cl (YQ A E) g) kf i++[x]):=by show _=_;rw[DJ,hx]
  let⟨ca,aw,al,_⟩:=Z.oc.il;rw[TD]at al;have aC:=hyd al;have cm:=(Z.c 1 _ rfl).1;rw[al]at cm;have HZ:=hyd Z;have Hκ:=hyd hκ;clear Z hx D al l r m T0 T1 H hκ;go_wp2_with (first|(with_reducible show wpList _ _ _ (⟨_,Op.index 140 _ _,_,_,_,_⟩::_) _ _;apply GQ rfl _ _ rfl kf rfl i rfl T;rw[Hκ.o]));apply wp_region_any Qk;change wpAny _ _ _ _ 10 _ _ wr.drew;apply tJ 0
  apply tJ 2
  apply tJ 3
  apply tJ 4
  let⟨W3,d⟩:=nam (wr.drew.alloc (.cells #[I6 x] 3));have q4:=cm;have q5:=cx;have Zd:=HZ.o.below (Zk wr.heap.size wr).drew F;have x3:Below wr.drew.heap.size wr.drew W3:=by rw[d];exact box_bel wr.drew _
  have aU:W3.cell? (a_ mb 1)=some (.slice ca i aw):=by rw[<-aC.o];exact((Zd.below x3 F).c 1 _ rfl).1
  refine Sl (fuel:=3) 1 5 6 (o4:=?o4) (o5:=?o5) (o6:=?o6) (v4:=.slice ca i aw) (v5:=I6 x) (v6:=.slice (some (a_ wr.drew.heap.size 0)) 1 1) (L:=#[true,true,true,true,true,true,true,false,false,false]) (A:=?A) (w':=W3)
   ?h4 ?h5 ?h6 ?g4 ?g5 ?g6 ?r0 ?r1 ?r2 ?r3 ?r4 ?r5 ?x4 ?y4 ?z4 ?x5 ?y5 ?x6 ?y6 ?z6 ?l1 ?l2 ?l3 ?f1 ?f2 ?f3 ?fin
  case h4=>simp only[gel];rfl
  case h5=>simp only[gel];rfl
  case h6=>simp only[gel];rfl
  case g4=>rfl
  case g5=>rfl
  case g6=>rfl
  case r0=>kernel_rfl
  case r1=>kernel_rfl
  case r2=>kernel_rfl
  case r3=>kernel_rfl
  case r4=>kernel_rfl
  case r5=>kernel_rfl
  case x4=>go_simp
  case y4=>simp only[psm];go_simp
  case z4=>clear d;simp only[psm];go_simp
  case x5=>go_simp
  case y5=>simp only[psm];go_simp
  case x6=>rw[d];exact Xl _ rfl x rfl
  case y6=>rw[d];exact Xl _ rfl x rfl
  case z6=>rw[d];exact Xl _ rfl x rfl
  case l1=>kernel_rfl
  case l2=>kernel_rfl
  case l3=>kernel_rfl
  case f1=>simp only[psm];rfl
  case f2=>simp only[psm]
  case f3=>simp only[psm]
  apply We 7 rfl Qk;simp only[ZL,Zw];have G:W3.cell? (a_ wr.drew.heap.size 0)=some (I6 x):=by rw[d,Zm];rfl
  have Z3:=Zd.below x3 F;have z:=Z3.oc;have C:=Z3.b.size;refine Bm.wpList_append_int Qr _ _ Qr w3.heap.size vc (Xb (Cl (YQ A E) g) kf i) (by rw[aC.o];rfl) z (by rw[TD];omega) wr.drew.heap.size x Qr G C _ rfl ?_;rw[TD];intro g5 t w5 J a u aR;rw[<-bR.o]at J;rw[d]at a u;let⟨p1,p2,Z5⟩:=Zd.put1 F J a u;let⟨W6,O⟩:=nam (w5.setCell (a_ mb 1) (sL g5 (i+1) t));rw[<-O]at Z5;have aj:=hyd O;rw[aC.o]at p1;clear O J a u aR Z3 z C G Zd x3 q4 q5 aU d cm cx HZ;go_wp2_with fail
  (try simp only[Act.put])
  rw[<-aj.o];go_roundw
  .exact⟨i+1,_,Qo,Qg,Z5⟩
  simp[intOf];omega
 have bt:¬(i:Int)<256:=Qo
 have bn:i=256:=Qo
 subst bn;let⟨H,T0,T1,_,_,_⟩:=B.o _ _ _ _ _ _ wr Z;let⟨va,cu,am,ah⟩:=(HF.o wr H).il;rw[YH,<-ai.o]at am;have bS:=hyd am;have cv:=(T0 1 _ rfl).1;rw[am]at cv;let⟨fs,br⟩:=nam (reps (Cl (YQ A E) g) A.K);have ak:=hyd br;let⟨Q,Y⟩:=nam (Xb (Cl (YQ A E) g) kf 256);have aV:=hyd Y;rw[<-Y]at Z;have a8:=hyd Z;have bG:(g:Int)<=200:=Qo
 clear Z H T0 T1 ah am br Y;go_wp2_with fail
 go_loopw [50] (λx w'=>∃(i:Nat) (vl vn:Value),i<=g/\x=I6 i/\MS mb w3 vc vl vn Q (WI A E i) (Xq (YQ A E) fs i) w') (λx _=>g-(intOf x).toNat)
 .exact⟨0,_,_,Qo,rfl,a8⟩
 clear a8 cv;obtain⟨i,vl,vn,hi,rfl,Z⟩:=hrel;let⟨H,T0,T1,m,l,r⟩:=B.o _ _ _ _ _ _ wr Z;by_cases T:i<g
 .have bv:(i:Int)<g:=Qo
  have cc:(reps E A.N).length=g:=by rw[ai.o];rfl
  obtain⟨σ,hσ⟩:∃σ,(reps E A.N)[i]?=some σ:=⟨(reps E A.N)[i]'Qo,Zd _⟩;let⟨bD,_,_⟩:=reps_mem hσ;let⟨cg,ch,W,ah⟩:=(HF.o wr H).il;rw[YH,<-ai.o]at W ah;have aE:cg=va:=by have:=bS.o;rw[W]at this;exact(fI this).1
  subst aE;let⟨gv,ov,aE,cv⟩:=ah i T;subst aE;have D:(YS E A.N).getD i 0=(σ:Int):=by simp[YS,Zf,hσ]
  simp only[D]at cv;let⟨sb,so,bY,bB⟩:=bL.o wr H σ bD;subst bY;have bU:=(HG wr H).c1;have ct:(σ:Int)<(A.N:Int):=Qo
  let⟨y,hy⟩:=nam (A.vd σ);have aW:Hid (Cp 130 #[.pointer (some (a_ sb (so+σ*104)))] wr λe w'=>e=.returned (I6 y)/\w'=wr):=by
   have:=Pe sb (so+σ*104) (rl σ) wr bB;rw[<-Hv.o σ bD,<-hy]at this;exact this
  have bd:Hid (WI A E (i+1)=WI A E i++[y]):=by show _=_;rw[D7,hy,Zf,hσ];rfl
  let⟨ce,bF,X,_⟩:=Z.ol.il;rw[TP]at X;have bf:=hyd X;have cm:=(Z.c 2 _ rfl).1;rw[X]at cm;have hx:=box_bel wr (.cells #[I6 y] 3);have aJ:=Z.ol.below hx;have G:(wr.alloc (.cells #[I6 y] 3)).cell? (a_ wr.heap.size 0)=some (I6 y):=by rw[Zm];rfl
  have C:w3.heap.size<=(wr.alloc (.cells #[I6 y] 3)).heap.size:=by have:=Z.b.size;have:=hx.size;omega
  have HZ:=hyd Z;have b9:(WI A E i).length<=1000000:=by rw[TP];omega
  rw[X]at aJ;clear Z H T0 T1 m l r cc hσ W ah D bB hy X hx;go_wp2_with fail;apply aW.o.mono;rintro en ci ⟨rfl,rfl⟩;go_wp2_with (first|(at_builtin;apply Bm.wpList_append_int Qr _ _ Qr w3.heap.size (.slice ce i bF) (WI A E i) Qr aJ b9 ci.heap.size y Qr G C _ rfl;rw[TP];intro g5 t w5 J a u aR;refine Ya.out ?_));refine⟨?_⟩
  (try simp only[psm])
  rw[<-bf.o]at a u;rw[<-bd.o]at J;let⟨p1,p2,Z5⟩:=HZ.o.put2 F J a u;let⟨W6,O⟩:=nam (w5.setCell (a_ mb 2) (sL g5 (i+1) t));rw[<-O]at Z5;have aj:=hyd O;rw[bf.o]at p1;have a9:Hid (MS mb w3 vc (sL g5 (i+1) t) vn Q (WI A E (i+1)) (Xq (YQ A E) fs i++Ui (YQ A E) fs i 0) W6):=by
   show MS _ _ _ _ _ _ _ _ _;rw[show Ui (YQ A E) fs i 0=[] from rfl,dv];exact Z5
  clear O J a u aR aJ G C Z5 HZ cm cv bU aW;go_wp2_with fail;rw[<-aj.o];clear aj p1 p2
  go_loopw [70] (λx w'=>∃(c:Nat) (vn:Value),c<=CN/\x=I6 c/\MS mb w3 vc (sL g5 (i+1) t) vn Q (WI A E (i+1)) (Xq (YQ A E) fs i++Ui (YQ A E) fs i c) w') (λx _=>CN-(intOf x).toNat)
  .exact⟨0,_,Qo,rfl,a9⟩
  clear a9;obtain⟨c,vn,hc,rfl,Z⟩:=hrel;let⟨H,T0,T1,m,l,r⟩:=B.o _ _ _ _ _ _ wr Z;have ap:fs.length=CN:=by rw[ak.o,bI.o];rfl
  by_cases b4:c<CN
  .have cj:(c:Int)<CN:=Qo
   obtain⟨κ,hκ⟩:∃κ,fs[c]?=some κ:=⟨fs[c]'Qo,Zd _⟩;have ar:κ<A.K:=by have h:=hκ;rw[ak.o]at h;exact(reps_mem h).1
   let⟨gf,cB,bV,cf⟩:=l c b4;subst bV;have D:(YS (Cl (YQ A E) g) A.K).getD c 0=(κ:Int):=by
    rw[YS,<-ak.o];simp[Zf,hκ]
   simp only[D]at cf;let⟨p,hp⟩:=nam (i*A.K);have ia:(i:Int)*(A.K:Int)=(p:Int):=by rw[hp];simp
   let⟨q,hq⟩:=nam (p+κ);have iq:(p:Int)+(κ:Int)=(q:Int):=Qo
   have U:q<g*A.K:=by
    have:(i+1)*A.K<=g*A.K:=ZQ _ T;rw[dQ]at this;omega
   let⟨rb,ro,bX,cr⟩:=r q U;subst bX;let⟨x,hx⟩:=nam (YQ A E i κ);have aP:(Xk A.K (YQ A E) (g*A.K)).getD q 0=x:=by
    have hd:=Ps (s:=i) ar;rw[hq,hp]at U ⊢;simp[Xk,Zf,U,hd.1,hd.2,hx]
   simp only[aP]at cr;have co:(q:Int)<M:=by have:=HM.o;omega
   have cy:(p:Int)<=51200:=by
    have h1:p<=200*256:=by rw[hp];exact dP Qo aQ
    omega
   have cw:(M:Int)<=51200:=by
    have h1:M<=200*256:=by rw[HM.o];exact dP Qo aQ
    omega
   have cz:IntKind.i64.wrap (p:Int)=(p:Int):=by simp[IntKind.wrap,IntKind.bits,IntKind.signed];omega
   have cA:IntKind.i64.wrap (q:Int)=(q:Int):=by simp[IntKind.wrap,IntKind.bits,IntKind.signed];omega
   have bT:=(HG wr H).c0;have be:Hid (Xq (YQ A E) fs i++Ui (YQ A E) fs i (c+1)=(Xq (YQ A E) fs i++Ui (YQ A E) fs i c)++[x]):=by
    show _=_;rw[Ll,Zs,Zf,hκ,hx];rfl
   let⟨LN,aH⟩:=nam (Xq (YQ A E) fs i++Ui (YQ A E) fs i c);rw[<-aH]at Z be;have bu:LN.length<=1000000:=by
    rw[aH,Zl,V8,M9,ap];have h1:i*CN<=200*256:=dP Qo Qo;omega
   let⟨na,ay,an,_⟩:=Z.on.il;let⟨az,bz⟩:=nam LN.length;rw[<-bz]at an;have aD:=hyd an;have cm:=(Z.c 3 _ rfl).1;rw[an]at cm;have HZ:=hyd Z;have bP:Hid (gb<w.heap.size/\gb≠mb):=⟨b6,by have:=aB.o;omega⟩;have ax:rb<w3.heap.size/\rb≠mb:=by
    have h1:=a0.o rb ro rfl;refine⟨?_,by have:=aB.o;omega⟩;have h2:=aY.o q U;let⟨b',o',e',c'⟩:=h2;cases e';exact Ze w3 _ c'
   have bQ:=hyd ax;have a5:Hid (∀(vn':Value) (ln':List Int) (w':World),MS mb w3 vc (sL g5 (i+1) t) vn' Q (WI A E (i+1)) ln' w'->w'.cell? (a_ gb 0)=some (I6 A.K)/\w'.cell? (a_ rb (ro+q))=some (I6 x)):=λvn' ln' w' h=>by
    let⟨bH,_,_,_,_,bE⟩:=B.o _ _ _ _ _ _ w' h;let⟨cC,cD,e',c'⟩:=bE q U;cases e';simp only[aP]at c';exact⟨(HG w' bH).c0,c'⟩
   clear Z H T0 T1 m l r D aP hx hp hq U aH an hκ ap ax bz;go_wp2_with fail;have bq:wr.drew.cell? (a_ gb 0)=some (I6 A.K)/\wr.drew.cell? (a_ rb (ro+q))=some (I6 x):=⟨bT,cr⟩;refine fK (S:=λw'=>w'.cell? (a_ gb 0)=some (I6 A.K)/\w'.cell? (a_ rb (ro+q))=some (I6 x)) Qk bq (λhHeld=>?_);apply tQ 0
   apply tQ 2
   apply tQ 3
   apply tQ 4
   apply tQ 5
   apply tQ 6
   apply tQ 7
   apply tQ 8
   apply tQ 9
   apply tQ 10
   apply tQ 11
   apply tQ 12
   let⟨W3,d⟩:=nam (wr.drew.alloc (.cells #[I6 x] 3));have q4:=cm;have Zd:=HZ.o.below (Zk wr.heap.size wr).drew F;have x3:Below wr.drew.heap.size wr.drew W3:=by rw[d];exact box_bel wr.drew _
   have Z3:=Zd.below x3 F;have aU:W3.cell? (a_ mb 3)=some (.slice na az ay):=by rw[<-aD.o];exact(Z3.c 3 _ rfl).1
   have aM:=a5.o _ _ W3 Z3;refine SL (fuel:=3) 1 13 (oi:=?Jp1) (ok:=?Jp13) (vi:=.slice na az ay) (vk:=.slice (some (a_ wr.drew.heap.size 0)) 1 1) (L:=#[true,true,true,true,true,true,true,true,true,true,true,true,true,true,false,false,false]) (A:=?JA) (w':=W3)
    ?Jh1 ?Jh13 ?Jg1 ?Jg13 ?Jr0 ?Jr1 ?Jr2 ?Jxi ?Jyi ?Jxk ?Jyk ?Jl1 ?Jl2 ?Jf1 ?Jf2 ?JhS ?JhS' ?Jfin
   case Jh1=>simp only[gel];rfl
   case Jh13=>simp only[gel];rfl
   case Jg1=>rfl
   case Jg13=>rfl
   case Jr0=>kernel_rfl
   case Jr1=>kernel_rfl
   case Jr2=>kernel_rfl
   case Jxi=>go_simp
   case Jyi=>clear d;simp only[psm];go_simp
   case Jxk=>rw[d];exact Xl _ rfl x rfl
   case Jyk=>rw[d];exact Xl _ rfl x rfl
   case Jl1=>kernel_rfl
   case Jl2=>kernel_rfl
   case Jf1=>simp only[psm];rfl
   case Jf2=>simp only[psm]
   case JhS=>exact hHeld
   case JhS'=>exact aM
   have G:W3.cell? (a_ wr.drew.heap.size 0)=some (I6 x):=by rw[d,Zm];rfl
   have z:=Z3.on;have C:=Z3.b.size;apply fL (rs:=[14]) Qk Qs;refine fM (o:=?oH14) ?hiH14 (λK hK=>?_) fN
   case hiH14=>simp only[gel];rfl
   rw[dF Qr];refine Um _ _ rfl w3.heap.size vn LN (by rw[aD.o];rfl) z bu wr.drew.heap.size x rfl G C _ rfl ?_;intro g6 bj w6 aL a ag b8;rw[<-be.o]at aL;rw[d]at a ag;let⟨p1,p2,Z6⟩:=Zd.put3 F aL a ag;have bZ:w6.cell? (a_ gb 0)=some (I6 A.K)/\w6.cell? (a_ rb (ro+q))=some (I6 x):=by
    have bC:=Zd.on.blk;let⟨y1,y2⟩:=aM;rw[d]at y1 y2;have z1:=bP.o.1;have z2:=bQ.o.1;have zw:=bi.o;exact⟨by rw[a.cell_far (a_ gb 0) (Ze _ _ y1) (λe=>by have:=(bC _ e.symm).1;simp only at this;omega)];exact y1,by rw[a.cell_far (a_ rb (ro+q)) (Ze _ _ y2) (λe=>by have:=(bC _ e.symm).1;simp only at this;omega)];exact y2⟩
   refine hK.out _ _ bZ (λhHeld=>?_);clear hK K;let⟨W7,aN⟩:=nam (w6.setCell (a_ mb 3) (sL g6 (LN.length+1) bj));rw[<-aN]at Z6;have bM:=hyd aN;have b0:=a5.o _ _ W7 Z6;rw[aD.o]at p1
   (try simp only[psm])
   clear aN aL a ag b8 Z3 z C G Zd x3 q4 aU d cm cf cr HZ aM bq;apply tQ 15
   apply fL (rs:=[16]) Qk Qs;refine fM (o:=?oH16) ?hiH16 (λK hK=>?_) fN
   case hiH16=>simp only[gel];rfl
   go_simp;rw[<-bM.o];refine hK.out _ _ b0 (λhHeld=>?_);clear hK K;refine fO Qk ?_ _;go_wp2_with fail
   (try simp only[Act.put])
   go_roundw
   .exact⟨c+1,_,Qo,Qg,Z6⟩
   simp[intOf];omega
  have bt:¬(c:Int)<CN:=Qo
  have b3:c=CN:=Qo
  subst b3;have Z2:MS mb w3 vc (sL g5 (i+1) t) vn Q (WI A E (i+1)) (Xq (YQ A E) fs (i+1)) wr:=by
   rw[Sd,ap];exact Z
  clear Z H T0 T1 m l r ap;go_wp2_with fail;go_roundw
  .exact⟨i+1,_,_,Qo,Qg,Z2⟩
  simp[intOf];omega
 have bt:¬(i:Int)<g:=Qo
 have b7:i=g:=Qo
 subst b7;have rM:=Z.c.range;have tz:=T1.there;have bw:=aB.o;let⟨a1,c1,e1,_⟩:=Z.oc.il;let⟨a2,c2,e2,_⟩:=Z.ol.il;let⟨a3,c3,e3,_⟩:=Z.on.il;have bO:Hid ((#[I6 0,vc,vl,vn]:Array Value).all (·.oneCell')=true):=by
  show([I6 0,vc,vl,vn]:List Value).toArray.all (·.oneCell')=true;rw[gy,e1,e2,e3];rfl
 have aa:=Y8 (w.heap.size+1) [I6 0,vc,vl,vn] 0 wr;have bA:=Zo wr (w.heap.size+1) 0 [I6 0,vc,vl,vn] tz;have af:=ZF (P:=prog) (wr.setCells (w.heap.size+1) 0 [I6 0,vc,vl,vn]) (w.heap.size+1) 0 25 [I6 0,vc,vl,vn] _ bA u_i rfl Yg;have BX:=H.grown aa H.size (λq hq=>by cases hq;omega);have bm:=Z.oc.blk;have bo:=Z.ol.blk;have bp:=Z.on.blk;have O1:=Z.oc.grown aa (λq hq e=>by have:=Zh e;have:=(bm q hq).1;omega);have O2:=Z.ol.grown aa (λq hq e=>by have:=Zh e;have:=(bo q hq).1;omega);have O3:=Z.on.grown aa (λq hq e=>by have:=Zh e;have:=(bp q hq).1;omega);let⟨WX,aO⟩:=nam (wr.setCells (w.heap.size+1) 0 [I6 0,vc,vl,vn]);rw[<-aO]at af BX O1 O2 O3;have bN:=hyd aO;have bb:=hyd af;have HO:Hid (OwnL w.heap.size vc Q WX/\OwnL w.heap.size vl (WI A E i) WX/\OwnL w.heap.size vn (Xq (YQ A E) fs i) WX/\(∀k,vc.ownBlock=some k->vl.ownBlock≠some k)/\(∀k,vc.ownBlock=some k->vn.ownBlock≠some k)/\(∀k,vl.ownBlock=some k->vn.ownBlock≠some k)/\Bl w WX):=⟨O1.mono Qo,O2.mono Qo,O3.mono Qo,Z.n1,Z.n2,Z.n3,BX⟩;clear Z H T0 T1 m l r aa bA af BX bm bo bp O1 O2 O3 aO e1 e2 e3 bw;go_wp2_with (first|(with_reducible apply gld 25;refine Ya.out ?_));refine⟨?_⟩;apply Zb rfl 25 _ rfl mb 0 rfl [I6 0,vc,vl,vn] _ rM u_i rfl Yg
 (try simp only[psm])
 apply Za rfl 25 _ _ rfl (w.heap.size+1) 0 #[I6 0,vc,vl,vn] rfl rfl tz Yg bO.o;rw[Zc,<-bN.o];go_wp2_with fail;apply Zr (v:=.agg #[I6 0,vc,vl,vn]) (res_load1 results68 rfl bb.o) rfl;let⟨o1,o2,o3,o4,o5,o6,o7⟩:=HO.o;have e1:=ai.o;have e2:=aV.o;have e3:=ak.o;rw[e1]at e2 e3 o2 o3;rw[e2]at o1;rw[e3]at o3;exact⟨vc,vl,vn,rfl,o1,o2,o3,o4,o5,o6,o7⟩
end
section
open Go.RowKit
open Bm
variable {l:List (N_)}{kids:List Nat}{L xs:List Value}{N P b base base' gb k n nb size t tb:Nat}{F:N_}{f:Nat->Int}{S S' S1 S2:Nat->Prop}{v v1 v2 vb vh vk vl vr vt:Value}{W w w' w1 w2:World}
def Wu.hs{f:Nat->Nat->Bool}(h:Wu base v (UZ n f) w):∃ha hc,v=.slice ha n hc/\HS ha f n w:=by
 obtain⟨ad,cap,e,h1⟩:=h.at_;rw[XB]at e;refine⟨ad,cap,e,λp b d c=>?_⟩;obtain⟨g,a,h2⟩:=h1 p _ (Rm f d);exact⟨g,0,a,by rw[Zn];exact h2 b _ (YO _ c)⟩
def XL.bh{f:Nat->Nat->Bool}(h:XL base v (UZ n f) w):∃ba bc,v=.slice ba n bc/\BH ba f n w:=by
 obtain⟨ad,cap,e,h1⟩:=h.at_;rw[XB]at e;refine⟨ad,cap,e,λp b=>?_⟩;obtain⟨g,a,h2⟩:=h1 p _ (Rm f b);exact⟨g,0,a,by rw[Zn];exact h2⟩
def XL.sr(h:XL base v l w):∃sa sc,v=.slice sa l.length sc/\SR sa (λi r=>(l.getD i Ve) (96+r)) l.length w:=by
 obtain⟨ad,cap,e,h1⟩:=h.at_;refine⟨ad,cap,e,λi a=>?_⟩;obtain⟨g,b,h2⟩:=h1 i _ (Zd a);refine⟨g,0,b,λr c=>?_⟩;have:=h2 (96+r) _ (YO _ (by omega));show w.cell? ⟨g,0+i*104+96+r,none⟩=some (.bool ((l.getD i Ve) (96+r)));rw[Zn,ZN,Zf,Zd a];exact this
def VH.lb{l:List Nat}(h:VH base v l w)(hb:∀(k b:Nat),l[k]?=some b->b<256):∃la lc,v=.slice la l.length lc/\LB la l w:=by
 obtain⟨ad,cap,e,h1⟩:=h.at_;refine⟨ad,cap,e,λk b a=>?_⟩;obtain⟨g,c,h2⟩:=h1 k b a;exact⟨hb k b a,g,0,c,by rw[Zn];exact h2⟩
def F0(hs:Nat->Nat->Bool)(P:Nat):List Nat:=reps (Kq hs P) 256
variable {hs:Nat->N_}
def yH(h:(F0 hs P)[k]?=some b):b<256:=(reps_mem h).1
def Uu(hs:Nat->Nat->Bool)(P:Nat):0<(F0 hs P).length/\(F0 hs P).length<=256:=
 ⟨gC (dM _) (idx_lt (Vi hs P 256) (a:=0) (by omega)),cnt_le _ _⟩
def MX(hs:Nat->Nat->Bool)(P:Nat):xV hs P (F0 hs P):=λb d=>by
 have a:=Vi hs P 256;have h1:=idx_lt a d;obtain⟨c,e⟩:∃c,(F0 hs P)[idx (Kq hs P) b]?=some c:=⟨(F0 hs P)[idx (Kq hs P) b]'h1,Zd _⟩;obtain⟨f,g,h⟩:=reps_mem e;have:idx (Kq hs P) c=idx (Kq hs P) b:=by rw[idx_rep g,h]
 exact⟨_,c,e,(Vj hs P c b).1 ((idx_eq a f d).1 this)⟩
variable {bh:Nat->N_}
def Ck(hr:w.rangeAt nb 0 (LO vh vb F))(hH:Wu base vh (UZ P hs) w)(hB:XL base' vb (UZ P bh) w):∃ha hc ba bc,NR nb ha hc P hs ba bc bh F w:=by
 obtain⟨ha,hc,rfl,h1⟩:=hH.hs;obtain⟨ba,bc,rfl,h2⟩:=hB.bh;refine⟨ha,hc,ba,bc,by simpa using hr 0 _ rfl,by simpa using hr 1 _ rfl,λj v a=>?_,h1,h2⟩;have:=hr (2+j) v (by rw[ZP];exact a);simpa using this
def D5{kb:Nat}(hr:w.rangeAt kb 0 (Ye f vl)):w.rangeAt kb 0 (kl f)/\w.cell? ⟨kb,256,none⟩=some vl:=by
 refine⟨λj v a=>hr j v ?_,by simpa using hr 256 vl (Wo f vl)⟩;have b:j<256:=by have:=(Zi.1 a).1;rw[BV]at this;exact this
 rw[VN f vl j b];simp[kl,b]at a;exact congrArg some a
def FT{A:(Nat->Bool)->Nat->Nat->Bool}{ls:List Nat}{t:List Int}{vs:Value}(hK:0<ls.length)(h:WU A F ls l.length 0 l t)(hS:XL base vs l w)(hT:OwnL base vt t w)(hr:w.rangeAt gb 0 [.int .i64 ls.length,vs,vt]):∃ta tc sa sc,Gr gb (XO l t ls.length) ta tc (.slice sa l.length sc) w/\SR sa (λi r=>(l.getD i Ve) (96+r)) l.length w:=by
 obtain⟨sa,sc,rfl,h1⟩:=hS.sr;obtain⟨ta,tc,rfl,h2⟩:=hT.il;obtain⟨_,_,f,_⟩:=h.size;have a:t.length=l.length*ls.length:=by omega
 refine⟨ta,tc,sa,sc,⟨by show _=some (Value.int .i64 (ls.length:Int));simpa using hr 0 _ rfl,by simpa using hr 1 _ rfl,?_,?_⟩,h1⟩
 .have:=hr 2 _ rfl;rw[a]at this;show _=some (Value.slice ta (l.length*ls.length) tc);simpa using this
 show IL ta (fl (XO l t ls.length)) (l.length*ls.length) w;rw[<-a];intro i c;obtain⟨b,o,e,d⟩:=h2 i c;refine⟨b,o,e,?_⟩;rw[Mu _ _ _ _ hK,Zf,Zd c];simpa[Zf,Zd c]using d
open Pg (Pt)
def XD:List Value:=[.int .i64 0,.slice none 0 0,.slice none 0 0,.slice none 0 0]
def Wh(es:Nat->Rx)(n:Nat)(f:Nat->Bool)(b:Nat):Nat->Bool:=YC (XV es n) (U0 es n) f b (Y4 es n)
def UE(es:Nat->Rx)(n:Nat):List Nat:=F0 (XV es n) (Y4 es n)
def BS(es:Nat->Rx)(n:Nat)(b:Nat):Int:=idxI (Kq (XV es n) (Y4 es n)) b
def Mj(es:Nat->Rx)(n:Nat)(w:World)(en:Ending)(w':World):Prop:=
 Below w.heap.size w w' /\
 ((en=.returned (.tuple #[.agg XD.toArray,.int .i64 8])/\∃s k l t f b,WU (Wh es n) (X6 es n) (UE es n) s k l t/\l[s]?=some f/\(UE es n)[k]?=some b/\200<=Xp l (Wh es n f b)) \/
  ∃l t A,A=XO l t (UE es n).length/\WU (Wh es n) (X6 es n) (UE es n) l.length 0 l t /\
  ((96<cnt (alB A) A.N/\en=.returned (.tuple #[.agg XD.toArray,.int .i64 9])) \/
   (¬96<cnt (alB A) A.N/\∃vc vl vn kf,en=.returned (.tuple #[.agg #[.int .i64 n,vc,vl,vn],.int .i64 0])/\(∀b,b<256->kf b=BS es n b) /\
   OwnL w.heap.size vc (Xb (Cl (YQ A (alB A)) (cnt (alB A) A.N)) kf 256) w'/\OwnL w.heap.size vl (WI A (alB A) (cnt (alB A) A.N)) w'/\OwnL w.heap.size vn (Xq (YQ A (alB A)) (reps (Cl (YQ A (alB A)) (cnt (alB A) A.N)) A.K) (cnt (alB A) A.N)) w' /\
   (∀k,vc.ownBlock=some k->vl.ownBlock≠some k)/\(∀k,vc.ownBlock=some k->vn.ownBlock≠some k)/\(∀k,vl.ownBlock=some k->vn.ownBlock≠some k))))
def Xa(w:World)(z Z:List Value)(H:TypeId)(J:Z.length=z.length):Bl w ((w.alloc (.cells z.toArray H)).setCells w.heap.size 0 Z)/\((w.alloc (.cells z.toArray H)).setCells w.heap.size 0 Z).rangeAt w.heap.size 0 Z/\w.heap.size+1<=((w.alloc (.cells z.toArray H)).setCells w.heap.size 0 Z).heap.size/\(w.alloc (.cells z.toArray H)).there w.heap.size 0 Z.length:=by
 have T:=(TC.boxed w z H).there;rw[<-J]at T;have a:=Y8 w.heap.size Z 0 (w.alloc (.cells z.toArray H));have B:=box_bel w (.cells z.toArray H);have hs:(w.alloc (.cells z.toArray H)).heap.size=w.heap.size+1:=Qs
 refine⟨B.grown a B.size (λq b=>by cases b;omega),Zo _ _ 0 Z T,?_,T⟩;have:=a.size;omega
def Tt(z:w.there t 0 L.length):TC t L (w.setCells t 0 L):=λk v a=>by
 have h1:=Zo w t 0 L z k v a;have b:=(Zi.1 a).1;have h2:=(z k b).2;rw[Zn]at h1 h2;refine⟨h1,?_⟩;rw[fp];exact h2
def WN(a b c d:Value)(T:TC w.heap.size XD W)(B:Bl w W):W.there w.heap.size 0 4/\Bl w (W.setCells w.heap.size 0 [a,b,c,d])/\(loadVar 25 (a_ w.heap.size 0)).run prog (W.setCells w.heap.size 0 [a,b,c,d])=.ok (.agg #[a,b,c,d]) (W.setCells w.heap.size 0 [a,b,c,d])/\W.grownBy (W.setCells w.heap.size 0 [a,b,c,d]) (some w.heap.size):=by
 have t:=T.there;have e:=Y8 w.heap.size [a,b,c,d] 0 W;exact⟨t,B.grown e B.size (λq f=>by cases f;omega),ZF (P:=prog) _ w.heap.size 0 25 [a,b,c,d] _ (Zo W w.heap.size 0 [a,b,c,d] t) u_i rfl Yg,e⟩
def Lj(b bz cap n:Nat)(f:Nat->ByteArray)(w:World)(h1:1<=n)(h8:n<=8)(hb:b<w.heap.size)(hm:∀i,i<n->(f i).size<=maxLen)(hr:RL b bz f n w)(bw:∀j,j<n->(Pg.gP (Y7 (f j)) (f j).size).1=0)(bv:¬96<X8 (λj=>Yh (f j)) n):
  Cp 34 #[.slice (some (a_ b bz)) n cap] w (Mj (λj=>TZ (f j)) n w):=by
 have hz:=Wq;have bq:=QR;have br:=NU;have bt:=NT;have bu:=PW;obtain⟨W0,R⟩:∃W,W=w.alloc (.cells #[I6 0,sN,sN,sN] 25):=⟨_,rfl⟩;have T0:TC w.heap.size XD W0:=by rw[R];exact TC.boxed w XD _
 have B0:Bl w W0:=by rw[R];exact box_bel _ _
 have a7:W0.heap.size=w.heap.size+1:=by rw[R];simp
 obtain⟨es,S⟩:∃es:Nat->Rx,es=λj=>TZ (f j):=⟨_,rfl⟩
 have a5:∀j,j<n->(Pg.ie (Y7 (f j)) (f j).size).ok=true:=λj hj=>((XQ (f j)).2 (bw j hj)).2.2
 have ae:=(Ok es (λj=>Yh (f j)) n (λi hi=>by rw[S];exact Sg (f i) (a5 i hi)) bv).2;have HL:Hid (NY (Y4 es n) (XV es n) (U0 es n) (X6 es n)):=M7 es n h1 h8 ae (λk hk=>by rw[S];exact KC (f k) (bw k hk));have bd:Hid (∀p,p<Y4 es n->JE (Y4 es n) (U0 es n) p):=M6 es n h8 ae;have aI:Hid (Cp 64 #[.slice (some (a_ b bz)) n cap] W0 (AQ es n W0)):=by
  show Calls _ _ _ _ _;rw[S];exact yj b bz cap n f W0 h1 h8 Qo hm (hr.below hb B0) bw bv
 have aJ:Hid (W0=w.alloc (.cells #[I6 0,sN,sN,sN] 25)):=R;rw[<-S];have am:Hid (W0.heap.size=w.heap.size+1):=a7;have HN:Hid (Y4 es n<=96):=ae;have bp:(n:Int)<=8:=Qo
 clear R S a5 ae a7 hr bw bv hm;go_enter func34,ntmps34;go_wp2_with fail;rw[<-aJ.o];refine aI.o.mono ?_;rintro en w2 ⟨vh,vb,rfl,OH,OB,B2⟩;have aG:Hid (Wu W0.heap.size vh (UZ (Y4 es n) (XV es n)) w2/\XL W0.heap.size vb (UZ (Y4 es n) (U0 es n)) w2/\Bl w w2/\TC w.heap.size XD w2/\w.heap.size+1<=w2.heap.size):=⟨OH,OB,B0.trans (B2.mono (by have:=am.o;omega)),T0.block (B2.block _ (by have:=am.o;omega)),by have:=am.o;have:=B2.size;omega⟩;obtain⟨Z,hZ⟩:∃Z,Z=LO vh vb (X6 es n):=⟨_,rfl⟩;rw[<-hZ];have aP:Hid (Z=LO vh vb (X6 es n)):=hZ;have HZ:Hid (Z.length=106):=by show _=_;rw[hZ];exact UN _ _ _
 have T:vh.oneCell'=true:=by obtain⟨a1,c1,e1,_⟩:=OH.at_;rw[e1];rfl
 have U:vb.oneCell'=true:=by obtain⟨a1,c1,e1,_⟩:=OB.at_;rw[e1];rfl
 have aH:Hid (Z.toArray.all (·.oneCell')=true):=by show _=true;rw[hZ];exact Qu T U _
 clear OH OB B2 hZ T U B0 T0 aI aJ;go_wp2_with (first|(with_reducible refine gst 137 ?_;refine Ya.out ?_));refine⟨?_⟩;obtain⟨w3,ar⟩:∃W,W=(w2.alloc (.cells Xs.toArray 137)).setCells w2.heap.size 0 Z:=⟨_,rfl⟩;have a:=Xa w2 Xs Z 137 (by rw[HZ.o];exact(UN _ _ _).symm);rw[<-ar]at a;obtain⟨B3,r3,s3,t3⟩:=a;obtain⟨OH,OB,ax,T2,z2⟩:=aG.o;refine Za rfl 137 _ _ rfl w2.heap.size 0 Z.toArray rfl rfl (by simpa using t3) (by simpa[HZ.o]using Vt) aH.o ?_;rw[Zc,<-ar];rw[aP.o]at r3;obtain⟨ha,hc,ba,bc,N3⟩:=Ck r3 (OH.below B3) (OB.below B3);have M:Bl w w3:=ax.trans (B3.mono Qo);have T3:=T2.block (B3.block _ Qo);have aC:Hid (Cp 65 #[.pointer (some (a_ w2.heap.size 0))] w3 (GZ (Kq (XV es n) (Y4 es n)) w3)):=IG w2.heap.size ha hc (Y4 es n) (XV es n) w3 HN.o N3.c0 N3.h;have aF:Hid (NR w2.heap.size ha hc (Y4 es n) (XV es n) ba bc (U0 es n) (X6 es n) w3):=N3;have aL:Hid (Bl w w3/\TC w.heap.size XD w3/\w2.heap.size+1<=w3.heap.size/\w.heap.size+1<=w2.heap.size):=⟨M,T3,s3,z2⟩;clear ar OH OB ax T2 t3 r3 N3 M T3 B3 aG aH HZ aP s3 z2;go_wp2_with fail;refine aC.o.mono ?_;rintro en z ⟨kf,vl,rfl,a3,OU,B4⟩;obtain⟨Kc,Q⟩:∃K,K=Ye kf vl:=⟨_,rfl⟩;rw[<-Q];have al:Hid (Kc.length=257):=by show _=_;rw[Q];exact Xg _ _
 obtain⟨la,lc,an,aS⟩:=OU.lb (λk b hk=>yH hk);have aA:Hid (Kc.toArray.all (·.oneCell')=true):=by
  show _=true;rw[Q,an,gy];simp[Ye,Value.oneCell']
 have aB:Hid (Kc=Ye kf vl):=Q;clear Q;go_wp2_with (first|(with_reducible refine gst 142 ?_;refine Ya.out ?_));refine⟨?_⟩;obtain⟨w5,au⟩:∃W,W=(z.alloc (.cells (Ye (λ_=>0) (sN)).toArray 142)).setCells z.heap.size 0 Kc:=⟨_,rfl⟩;have a:=Xa z (Ye (λ_=>0) (sN)) Kc 142 (by rw[al.o,Xg]);rw[<-au]at a;obtain⟨B5,r5,s5,t5⟩:=a;refine Za rfl 142 _ _ rfl z.heap.size 0 Kc.toArray rfl rfl (by simpa using t5) (by simpa[al.o]using Th) aA.o ?_;rw[Zc,<-au];obtain⟨M,T3,z3,z2⟩:=aL.o;have z4:=B4.size;rw[aB.o]at r5;obtain⟨rk,ck⟩:=D5 r5;rw[an]at ck;obtain⟨m,hm⟩:∃m,m=(UE es n).length:=⟨_,rfl⟩;have a4:m=(reps (Kq (XV es n) (Y4 es n)) 256).length:=hm;rw[<-a4]at ck;have bo:m<=256:=by rw[hm];exact(Uu _ _).2
 have N5:=(aF.o.below B4).below B5;have D:Bl w w5:=(M.trans (B4.mono Qo)).trans (B5.mono Qo);have T5:=(T3.block (B4.block _ Qo)).block (B5.block _ Qo);have az:Hid (Cp 66 #[.pointer (some (a_ w2.heap.size 0)),.slice la m lc] w5 (AN (Wh es n) (X6 es n) (UE es n) w5)):=by
  show Calls _ _ _ _ _;rw[hm];exact Ip w2.heap.size ha hc (Y4 es n) (XV es n) ba bc (U0 es n) (X6 es n) la lc (UE es n) w5 HN (Uu _ _).2 N5 (aS.below B5)
 have aM:Hid (Bl w w5/\TC w.heap.size XD w5/\z.heap.size+1<=w5.heap.size/\w.heap.size+1<=z.heap.size/\w5.rangeAt z.heap.size 0 (kl kf)):=⟨D,T5,s5,Qo,rk⟩;have Hm:Hid (m=(UE es n).length):=hm;have aR:Hid (∀b,b<256->kf b=BS es n b):=a3;clear au r5 rk B5 s5 t5 M T3 z3 z2 z4 N5 D T5 hm a4 a3 an OU aS B4 aA al aB aC aF aL;go_wp2_with fail;refine az.o.mono ?_;rintro en o ⟨B6,aq⟩;obtain⟨D,T5,z5,z4,rk⟩:=aM.o;have T6:=T5.block (B6.block _ Qo);have I:Bl w o:=D.trans (B6.mono D.size);rcases aq with ⟨vs,vt,l,t,rfl,hE,OS,OL⟩|⟨rfl,aY⟩
 .rw[<-Hm.o];go_wp2_with (first|(with_reducible refine gst 146 ?_;refine Ya.out ?_));refine⟨?_⟩;obtain⟨B,E⟩:∃W,W=(o.alloc (.cells LG.toArray 146)).setCells o.heap.size 0 [I6 m,vs,vt]:=⟨_,rfl⟩;have a:=Xa o LG [I6 m,vs,vt] 146 rfl;rw[<-E]at a;obtain⟨Y,r7,s7,t7⟩:=a;obtain⟨_,_,aU,_⟩:=OS.at_;obtain⟨_,_,aV,_⟩:=OL.il;refine Za rfl 146 _ _ rfl o.heap.size 0 #[I6 m,vs,vt] rfl rfl t7 Wx (by simp[aU,aV,Value.oneCell']) ?_;rw[Zc];have y:B=(o.alloc (.cells #[I6 0,sN,sN] 146)).setCells o.heap.size 0 [I6 m,vs,vt]:=E;rw[<-y];have z6:=B6.size;have T7:=T6.block (Y.block _ Qo);have s:Bl w B:=I.trans (Y.mono I.size);rw[Hm.o]at r7;obtain⟨ta,tc,sa,sc,G7,S7⟩:=FT (Uu _ _).1 hE (OS.below Y) (OL.below Y) r7;have a8:B.rangeAt z.heap.size 0 (kl kf):=λj v hv=>by
   have h:=rk j v hv;rw[Y.cell (p:=(a_ z.heap.size (0+j))) (by show z.heap.size<o.heap.size;omega),B6.cell (p:=(a_ z.heap.size (0+j))) (by show z.heap.size<w5.heap.size;omega)];exact h
  obtain⟨A,hA⟩:∃A,A=XO l t (UE es n).length:=⟨_,rfl⟩;have aX:=hE.size;have ac:Aut.Small A:=by rw[hA];exact⟨aX.2.1,(Uu _ _).2⟩
  have ap:A.Good:=by rw[hA];exact Ra HL bd (MX _ _) hE
  have ao:A.N=l.length:=by rw[hA];rfl
  have aW:A.K=(UE es n).length:=by rw[hA];rfl
  have af:∀i,i<A.N->A.vd i=UY ((λi r=>(l.getD i Ve) (96+r)) i) 8 0:=λi _=>by rw[hA];rfl
  rw[show XO l t (F0 (XV es n) (Y4 es n)).length=A from hA.symm,<-ao]at G7;rw[<-ao]at S7;obtain⟨rl,a6⟩:∃rl:Nat->N_,rl=λi r=>(l.getD i Ve) (96+r):=⟨_,rfl⟩
  rw[<-a6]at S7 af;have a2:∀b,b<256->0<=kf b/\kf b<A.K:=λb hb=>by
   have h1:=idx_lt (Vi (XV es n) (Y4 es n) 256) hb;rw[aR.o b hb,aW];have h2:BS es n b=(idx (Kq (XV es n) (Y4 es n)) b:Int):=rfl;have h3:(UE es n).length=cnt (Kq (XV es n) (Y4 es n)) 256:=rfl;omega
  have ay:Hid (Cp 67 #[.pointer (some (a_ o.heap.size 0))] B (Qb (alB A) A.N B)):=Dz o.heap.size A ta tc sa sc rl B ac ap Qo G7 S7 af;have aD:Hid (∀(vo vf:Value) (b1 b2:Nat) (W:World),Bl B W->OwnL b1 vo (UO (alB A) A.N) W->OwnL b2 vf (YS (alB A) A.N) W->Cp 68 #[.pointer (some (a_ o.heap.size 0)),.pointer (some (a_ z.heap.size 0)),.agg #[vo,vf]] W (Mk A (alB A) kf W)):=λvo vf b1 b2 W hW ho hf=>
   LH o.heap.size A ta tc sa sc rl z.heap.size kf (alB A) b1 b2 vo vf W ac ap.rng (G7.below hW) (S7.below hW) af (λj v hv=>by
    rw[hW.cell (p:=(a_ z.heap.size (0+j))) (by show z.heap.size<B.heap.size;omega)];exact a8 j v hv) a2 ho hf
  have ab:Hid (A=XO l t (UE es n).length/\WU (Wh es n) (X6 es n) (UE es n) l.length 0 l t):=⟨hA,hE⟩;have aN:Hid (Bl w B/\TC w.heap.size XD B/\w.heap.size+1<=B.heap.size):=⟨s,T7,Qo⟩;have bb:Hid (A.N<=200):=ac.n;clear E y T7 s T6 I T5 D rk a8 Y r7 t7 hA aX ac ap ao aW af G7 S7 a6 a2 hE OS OL aU aV z6 s7 B6 z5 z4 aM az;go_wp2_with fail;refine ay.o.mono ?_;rintro en w8 ⟨vo,vf,rfl,Oo,Of,bi,B8⟩;obtain⟨fa,fc,P,_⟩:=Of.il;rw[YH]at P;obtain⟨C,hC⟩:∃C,C=cnt (alB A) A.N:=⟨_,rfl⟩;rw[<-hC]at P;have aj:Hid ((#[vo,vf]:Array Value).all (·.oneCell')=true):=by
   obtain⟨_,_,bf,_⟩:=Oo.il;show _=true;simp[bf,P,Value.oneCell']
  have ai:Hid (vf=.slice fa C fc):=P;have HC:Hid (C=cnt (alB A) A.N):=hC;clear P hC;go_wp2_with (first|(with_reducible refine gst 150 ?_;refine Ya.out ?_));refine⟨?_⟩;obtain⟨X,av⟩:∃W,W=(w8.alloc (.cells [sN,sN].toArray 150)).setCells w8.heap.size 0 [vo,vf]:=⟨_,rfl⟩;have a:=Xa w8 [sN,sN] [vo,vf] 150 rfl;rw[<-av]at a;obtain⟨B9,r9,s9,t9⟩:=a;refine Za rfl 150 _ _ rfl w8.heap.size 0 #[vo,vf] rfl rfl t9 WM aj.o ?_;rw[Zc];have ak:X=(w8.alloc (.cells #[sN,sN] 150)).setCells w8.heap.size 0 [vo,vf]:=av;rw[<-ak];obtain⟨s,T7,z7⟩:=aN.o;have z8:=B8.size;have u:Bl w X:=(s.trans (B8.mono Qo)).trans (B9.mono Qo);have T9:=(T7.block (B8.block _ Qo)).block (B9.block _ Qo);have cf:X.cell? (a_ w8.heap.size 1)=some (.slice fa C fc):=by rw[<-ai.o];simpa using r9 1 _ rfl
  have aE:Hid (Cp 68 #[.pointer (some (a_ o.heap.size 0)),.pointer (some (a_ z.heap.size 0)),.agg #[vo,vf]] X (Mk A (alB A) kf X)):=aD.o vo vf _ _ X (B8.trans (B9.mono z8)) (Oo.below B9) (Of.below B9);have bn:(C:Int)<=200:=by have h1:=cnt_le (alB A) A.N;have h2:=bb.o;have h3:=HC.o;omega
  have aO:Hid (Bl w X/\TC w.heap.size XD X/\w.heap.size+1<=X.heap.size):=⟨u,T9,Qo⟩;clear av ak Oo Of bi B8 B9 s9 t9 ai aj s T7 z7 z8 u T9 aN aD ay;by_cases aZ:96<C
  .have a0:(C:Int) > 96:=Qo
   obtain⟨u,T9,z9⟩:=aO.o;obtain⟨tz,BX,c,_⟩:=WN (I6 0) (sN) (sN) (sN) T9 u;obtain⟨L,g⟩:∃W,W=X.setCells w.heap.size 0 [I6 0,sN,sN,sN]:=⟨_,rfl⟩;rw[<-g]at BX c;have O:Hid (L=X.setCells w.heap.size 0 [I6 0,sN,sN,sN]):=g;have x:Hid ((loadVar 25 (a_ w.heap.size 0)).run prog L=.ok (.agg #[I6 0,sN,sN,sN]) L):=c;clear g c T9 u z9 r9;go_wp2_with (first|(with_reducible refine gst 25 ?_;refine Ya.out ?_));refine⟨?_⟩;refine Za rfl 25 _ _ rfl w.heap.size 0 #[I6 0,sN,sN,sN] rfl rfl tz Yg (by simp[Value.oneCell']) ?_;rw[Zc,<-O.o];go_wp2_with fail;refine Zr (v:=.tuple #[.agg #[I6 0,sN,sN,sN],I6 9]) (XG results34 rfl x.o rfl) rfl ?_;exact⟨BX,Or.inr ⟨l,t,A,ab.o.1,ab.o.2,Or.inl ⟨by rw[<-HC.o];exact aZ,rfl⟩⟩⟩
  have a0:¬(C:Int) > 96:=Qo
  go_wp2_with (first|(with_reducible refine gld 150 ?_;refine Ya.out ?_));refine⟨?_⟩;refine Zb rfl 150 _ rfl w8.heap.size 0 rfl [vo,vf] _ r9 u_j rfl WM ?_
  (try simp only[psm])
  clear r9 cf;go_wp2_with fail;refine aE.o.mono ?_;rintro en d ⟨vc,vl,vn,rfl,o1,o2,o3,n1,n2,n3,aa⟩;obtain⟨_,_,e1,_⟩:=o1.il;obtain⟨_,_,e2,_⟩:=o2.il;obtain⟨_,_,e3,_⟩:=o3.il;have be:Hid ((#[I6 0,vc,vl,vn]:Array Value).all (·.oneCell')=true):=by
   show([I6 0,vc,vl,vn]:List Value).toArray.all (·.oneCell')=true;rw[gy,e1,e2,e3];rfl
  have aQ:Hid ((#[I6 n,vc,vl,vn]:Array Value).all (·.oneCell')=true):=by
   show([I6 n,vc,vl,vn]:List Value).toArray.all (·.oneCell')=true;rw[gy,e1,e2,e3];rfl
  clear e1 e2 e3;go_wp2_with (first|(with_reducible refine gst 25 ?_;refine Ya.out ?_));refine⟨?_⟩;obtain⟨ag,F⟩:∃W,W=(d.alloc (.cells XD.toArray 25)).setCells d.heap.size 0 [I6 0,vc,vl,vn]:=⟨_,rfl⟩;have a:=Xa d XD [I6 0,vc,vl,vn] 25 rfl;have TM:TC d.heap.size [I6 0,vc,vl,vn] ag:=by rw[F];exact Tt a.2.2.2
  rw[<-F]at a;obtain⟨aw,_,bj,a9⟩:=a;refine Za rfl 25 _ _ rfl d.heap.size 0 #[I6 0,vc,vl,vn] rfl rfl a9 Yg be ?_;rw[Zc];have V:ag=(d.alloc (.cells #[I6 0,sN,sN,sN] 25)).setCells d.heap.size 0 [I6 0,vc,vl,vn]:=F;rw[<-V];obtain⟨u,T9,z9⟩:=aO.o;have bm:=aa.size;obtain⟨J,G⟩:∃W,W=ag.setCell (a_ d.heap.size 0) (I6 n):=⟨_,rfl⟩;have TN:TC d.heap.size [I6 n,vc,vl,vn] J:=by rw[G];exact TM.set 0 Qs _
  have H:Bl d J:=by rw[G];exact aw.setCell (p:=(a_ d.heap.size 0)) (Zg _) _
  have ah:Bl w J:=(u.trans (aa.mono Qo)).trans (H.mono Qo);have aT:=(T9.block (aa.block _ Qo)).block (H.block _ Qo);obtain⟨tz,BX,c,hG⟩:=WN (I6 n) vc vl vn aT ah;have rM:=TN.range;have cm:=(TM 0 _ rfl).1;have fm:=(TM 0 _ rfl).2;have b1:=o1.blk;have b2:=o2.blk;have b3:=o3.blk;have O1:=(o1.below H).grown hG (λq hq e=>by have:=Zh e;have:=(b1 q hq).1;omega);have O2:=(o2.below H).grown hG (λq hq e=>by have:=Zh e;have:=(b2 q hq).1;omega);have O3:=(o3.below H).grown hG (λq hq e=>by have:=Zh e;have:=(b3 q hq).1;omega);obtain⟨L,g⟩:∃W,W=J.setCells w.heap.size 0 [I6 n,vc,vl,vn]:=⟨_,rfl⟩;rw[<-g]at BX c O1 O2 O3;have O:Hid (L=J.setCells w.heap.size 0 [I6 n,vc,vl,vn]):=g;have aK:Hid (J=ag.setCell (a_ d.heap.size 0) (I6 n)):=G;have x:Hid ((loadVar 25 (a_ w.heap.size 0)).run prog L=.ok (.agg #[I6 n,vc,vl,vn]) L):=c;have HP:Hid (Mj es n w (.returned (.tuple #[.agg #[I6 n,vc,vl,vn],I6 0])) L):=
   ⟨BX,Or.inr ⟨l,t,A,ab.o.1,ab.o.2,Or.inr ⟨by rw[<-HC.o];exact aZ,vc,vl,vn,kf,rfl,aR.o,O1.mono Qo,O2.mono Qo,O3.mono Qo,n1,n2,n3⟩⟩⟩
  clear F V G g c hG O1 O2 O3 b1 b2 b3 o1 o2 o3 n1 n2 n3 aa aw H u T9 ah aT BX TM TN z9 bm bj a9;go_wp2_with (first|(with_reducible refine gld 25 ?_;refine Ya.out ?_));refine⟨?_⟩;rw[<-aK.o];refine Zb rfl 25 _ rfl d.heap.size 0 rfl [I6 n,vc,vl,vn] _ rM u_i rfl Yg ?_
  (try simp only[psm])
  refine Za rfl 25 _ _ rfl w.heap.size 0 #[I6 n,vc,vl,vn] rfl rfl tz Yg aQ.o ?_;rw[Zc,<-O.o];go_wp2_with fail;exact Zr (v:=.tuple #[.agg #[I6 n,vc,vl,vn],I6 0]) (XG results34 rfl x.o rfl) rfl HP.o
 go_wp2_with (first|(with_reducible refine gst 146 ?_;refine Ya.out ?_));refine⟨?_⟩;obtain⟨B,E⟩:∃W,W=(o.alloc (.cells LG.toArray 146)).setCells o.heap.size 0 LG:=⟨_,rfl⟩;have a:=Xa o LG LG 146 rfl;rw[<-E]at a;obtain⟨Y,r7,s7,t7⟩:=a;refine Za rfl 146 _ _ rfl o.heap.size 0 LG.toArray rfl rfl t7 Wx (by simp[LG,Value.oneCell']) ?_;rw[Zc];have y:B=(o.alloc (.cells #[I6 0,sN,sN] 146)).setCells o.heap.size 0 LG:=E;rw[<-y];have T7:=T6.block (Y.block _ (by have:=B6.size;omega));have s:Bl w B:=I.trans (Y.mono I.size);obtain⟨tz,BX,c,_⟩:=WN (I6 0) (sN) (sN) (sN) T7 s;obtain⟨L,g⟩:∃W,W=B.setCells w.heap.size 0 [I6 0,sN,sN,sN]:=⟨_,rfl⟩;rw[<-g]at BX c;have O:Hid (L=B.setCells w.heap.size 0 [I6 0,sN,sN,sN]):=g;have x:Hid ((loadVar 25 (a_ w.heap.size 0)).run prog L=.ok (.agg #[I6 0,sN,sN,sN]) L):=c;clear E y g c T7 s T6 I T5 D rk Y r7 t7;go_wp2_with (first|(with_reducible refine gst 25 ?_;refine Ya.out ?_));refine⟨?_⟩;refine Za rfl 25 _ _ rfl w.heap.size 0 #[I6 0,sN,sN,sN] rfl rfl tz Yg (by simp[Value.oneCell']) ?_;rw[Zc,<-O.o];go_wp2_with fail;refine Zr (v:=.tuple #[.agg #[I6 0,sN,sN,sN],I6 8]) (XG results34 rfl x.o rfl) rfl ?_;exact⟨BX,Or.inl ⟨rfl,aY⟩⟩
end
section
open Go.RowKit
open Bm
def VU(w:World):(zeroValue 118).run prog w=.ok (.agg #[I6 0,sN,sN,I6 0,I6 0]) w:=Qk
def WW:(prog.info? 118).map (·.size)=some 5:=Qk
def RN:List Value:=[.int .i64 0,.slice none 0 0,.slice none 0 0,.int .i64 0,.int .i64 0]
def WJ(d:Nd)(vin:Value)(ka:Option Addr)(kc:Nat):List Value:=[.int .i64 d.kind,vin,.slice ka d.kids.length kc,.int .i64 d.up,.int .i64 d.at_]
def TR(tb:Nat)(T:Nat->Nd)(N:Nat)(w:World):Prop:=
 ∃na nc,w.cell? ⟨tb,0,none⟩=some (.slice na N nc)/\∀i,i<N->∃nb off vin ka kc,na=some ⟨nb,off,none⟩/\w.rangeAt nb (off+i*5) (WJ (T i) vin ka kc)/\vin.oneCell'=true/\IL ka (λk=>(((T i).kids.getD k 0:Nat):Int)) (T i).kids.length w/\((T i).kind=0->∃ia ic,vin=.slice ia 256 ic/\BR ia (T i).inn 256 w)
variable {kids:List Nat}{xs:List Value}{N b base n size tb:Nat}{T:Nat->Nd}{S S' S1 S2:Nat->Prop}{v v1 v2 vk vr:Value}{w w' w1 w2:World}
def TR.below(h:TR tb T N w)(z:Bl w w'):TR tb T N w':=by
 let⟨s,nc,c,h⟩:=h;refine⟨s,nc,by rw[z.cell (p:=(a_ tb 0)) (Ze w _ c)];exact c,λi f=>?_⟩;let⟨nb,a,b,n,q,e,r,o,il,g⟩:=h i f;refine⟨nb,a,b,n,q,e,λj v k=>?_,o,il.below z,λhz=>?_⟩
 .have:=r j v k;rw[z.cell (p:=(a_ nb (a+i*5+j))) (Ze w _ this)];exact this
 let⟨l,m,e2,d⟩:=g hz;exact⟨l,m,e2,d.below z⟩
def U8(tb:Nat)(T:Nat->Nd)(N:Nat)(hN:N<=1000000)(hw:Wf T N)(ah:∀i,i<N->(T i).kind<=4)(nl:N_)(h0:∀n,n<N->(T n).kind=0->nl n=false)(h1:∀n,n<N->(T n).kind=1\/(T n).kind=4->nl n=(T n).kids.all nl)(h2:∀n,n<N->(T n).kind=2->nl n=(T n).kids.any nl)(h3:∀n,n<N->(T n).kind=3->nl n=true):
  ∀(f n:Nat) (w:World),n<f->n<N->TR tb T N w->(∀i,i<N->(T i).kids.length<=1000000)->Cp 115 #[pT tb,I6 n] w λe w'=>e=.returned (.bool (nl n))/\Bl w w'
 |0,n,w,hf,_,_,_=>Qo
 |f+1,n,w,hf,hn,hT,hkl=>by
  have hz:=VU;have HI:Hid (∀(k:Nat) (w':World),k∈(T n).kids->Bl w w'->Cp 115 #[pT tb,I6 k] w' λe w''=>e=.returned (.bool (nl k))/\Bl w' w''):=λk w' q hW=>
   U8 tb T N hN hw ah nl h0 h1 h2 h3 f k w' (by have:=hw n hn k q;omega) (by have:=hw n hn k q;omega) (hT.below hW) hkl
  let⟨na,nc,c0,F⟩:=hT;let⟨nb,Z,b,u,C,e,r,o,il,_⟩:=F n hn;subst e;have ag:(n:Int)<N:=Qo
  have ab:(N:Int)<=1000000:=Qo
  have S:=hkl n hn;have U:=ah n hn;let⟨d,hd⟩:=nam (T n);have M:=h0 n hn;have g1:=h1 n hn;have g2:=h2 n hn;have O:=h3 n hn;rw[<-hd]at r il S M g1 g2 O HI U;let⟨m,hm⟩:=nam d.kids.length;have af:(m:Int)<=1000000:=Qo
  have D:=hyd hm;have I:=hyd4 M g1 g2 O;have L:Hid (∀w',Bl w w'->IL u (λk=>((d.kids.getD k 0:Nat):Int)) d.kids.length w'):=λw' h=>il.below h
  clear F hd M g1 g2 O h0 h1 h2 h3 il hkl ah hw;go_enter func115,ntmps115;go_wp2_with (first|(with_reducible apply gld 118;refine Ya.out ?_));refine⟨?_⟩;apply Zb rfl 118 _ rfl nb (Z+n*5) rfl (WJ d b u C) _ r u_k rfl WW
  (try simp only[psm])
  go_wp2_with (first|(with_reducible apply gst 118;refine Ya.out ?_));refine⟨?_⟩;let⟨w2,j⟩:=nam ((w.alloc (.cells RN.toArray 118)).setCells w.heap.size 0 (WJ d b u C));have A:=Xa w RN (WJ d b u C) 118 rfl;have c:TC w.heap.size (WJ d b u C) w2:=by rw[j];exact Tt A.2.2.2
  rw[<-j]at A;let⟨G,_,s2,t2⟩:=A;refine Za rfl 118 _ _ rfl w.heap.size 0 (WJ d b u C).toArray rfl rfl t2 WW (by simp only[WJ,gy,dD,o];rfl) ?_;rw[Zc];have t:w2=(w.alloc (.cells #[I6 0,sN,sN,I6 0,I6 0] 118)).setCells w.heap.size 0 (WJ d b u C):=j;rw[<-t];have ck:=(c 0 _ rfl).1;have E:=(c 2 _ rfl).1;rw[<-D.o]at E;clear j t t2 r;by_cases e0:d.kind=0
  .have q0:((d.kind:Int)==0)=true:=by simp[e0]
   have z:=hyd (I.o.1 e0);clear c;go_wp2;go_ret;exact⟨YM z.o.symm,G⟩
  have q0:((d.kind:Int)==0)=false:=Qp
  by_cases e3:d.kind=3
  .have q3:((d.kind:Int)==3)=true:=by simp[e3]
   have z:=hyd (I.o.2.2.2 e3);clear c;go_wp2;go_ret;exact⟨YM z.o.symm,G⟩
  have q3:((d.kind:Int)==3)=false:=Qp
  have v:=hyd2 G c;clear c;go_wp2
  go_loopw [6,7,8] (λa s x w'=>∃i:Nat,i<=m/\x=I6 i/\a=.bool ((d.kids.take i).all nl)/\s=.bool ((d.kids.take i).any nl)/\Bl w w'/\TC w.heap.size (WJ d b u C) w'/\w.heap.size+1<=w'.heap.size) (λ_ _ x _=>m-(intOf x).toNat)
  .exact⟨0,Qo,rfl,Qs,Qs,v.o.1,v.o.2,s2⟩
  clear ck E G v s2;obtain⟨i,hi,rfl,rfl,rfl,B,c,sz⟩:=hrel;have ck:=(c 0 _ rfl).1;have E:=(c 2 _ rfl).1;rw[<-D.o]at E;by_cases ae:i<m
  .have aa:(i:Int)<m:=Qo
   obtain⟨k,q⟩:∃k,d.kids[i]?=some k:=⟨d.kids[i]'(by have:=D.o;omega),Zd _⟩;let⟨g,og,eg,cg⟩:=L.o wr B i (by have:=D.o;omega);subst eg;simp only[Zf,q,fX]at cg;have y:=hyd (HI k wr (dI q) B);have l:Hid ((d.kids.take (i+1)).all nl=((d.kids.take i).all nl&&nl k)):=by
    show _=_;rw[fW,q];simp
   have p:Hid ((d.kids.take (i+1)).any nl=((d.kids.take i).any nl || nl k)):=by
    show _=_;rw[fW,q];simp
   have HT:=hyd c;let⟨X,P⟩:=nam ((d.kids.take i).all nl);let⟨Y,Q⟩:=nam ((d.kids.take i).any nl);let⟨V,J⟩:=nam (nl k);rw[<-P,<-Q];rw[<-P,<-J]at l;rw[<-Q,<-J]at p;rw[<-J]at y;clear c q P Q J;go_wp2_with fail;apply y.o.mono;rintro e w3 ⟨rfl,H⟩;have T3:=HT.o.block (H.block _ Qo);have K:Bl w w3:=B.trans (H.mono Qo);have s3:w.heap.size+1<=w3.heap.size:=by have:=H.size;omega
   clear y ck E cg H HT;cases X<;>cases Y<;>cases V<;>(go_wp2;go_roundw;(case rel=>exact⟨i+1,Qo,Qg,by rw[l.o];rfl,by rw[p.o];rfl,K,T3,s3⟩);(case measure=>simp[intOf];omega))
  have ac:¬(i:Int)<m:=Qo
  have R:i=m:=Qo
  subst R;have W:d.kids.take i=d.kids:=by rw[D.o,gp]
  rw[W];by_cases e2:d.kind=2
  .have q2:((d.kind:Int)==2)=true:=by simp[e2]
   have z:=hyd (I.o.2.2.1 e2);clear c W;go_wp2;go_ret;exact⟨YM z.o.symm,B⟩
  have q2:((d.kind:Int)==2)=false:=Qp
  have z:=hyd (I.o.2.1 Qo);clear c W;go_wp2;go_ret;exact⟨YM z.o.symm,B⟩
def HY(tb:Nat)(T:Nat->Nd)(N n:Nat)(w:World)(hN:N<=1000000)(hn:n<N)(hT:TR tb T N w):
  Cp 201 #[.pointer (some ⟨tb,0,none⟩),.int .i64 n] w λe w'=>e=.returned (.bool (decide ((T n).kind=1/\(T n).kids=[])))/\w'=w:=by
 obtain⟨p,nc,c0,b⟩:=hT;obtain⟨nb,i,l,m,o,e,r,_,_,_⟩:=b n hn;subst e;have c:=r 0 _ rfl;have g:=r 2 _ rfl;have h:(n:Int)<N:=by omega
 obtain⟨d,f⟩:=nam (T n);rw[<-f]at c g ⊢;simp only[eP]at c;clear b r f;by_cases h1:d.kind=1
 .have j:((d.kind:Int)==1)=true:=by simp[h1]
  by_cases h2:d.kids=[]
  .have k:((d.kids.length:Int)==0)=true:=by simp[h2]
   have a:Hid (decide (d.kind=1/\d.kids=[])=true):=by show _=_;simp[h1,h2]
   clear h1 h2;go_enter func201,ntmps201;go_wp2_with fail;go_ret;exact⟨YM a.out.symm,rfl⟩
  have k:((d.kids.length:Int)==0)=false:=by
   have:d.kids.length≠0:=λe=>h2 (dA e)
   simp;exact h2
  have a:Hid (decide (d.kind=1/\d.kids=[])=false):=by show _=_;simp[h2]
  clear h1 h2;go_enter func201,ntmps201;go_wp2_with fail;go_ret;exact⟨YM a.out.symm,rfl⟩
 have j:((d.kind:Int)==1)=false:=by simp;omega
 have a:Hid (decide (d.kind=1/\d.kids=[])=false):=by show _=_;simp[h1]
 clear h1;go_enter func201,ntmps201;go_wp2_with fail;go_ret;exact⟨YM a.out.symm,rfl⟩
def Us(N:Nat)(D:Nat->List Value):List Value:=(List.range N).flatMap D
def UL(N:Nat)(D:Nat->List Value):Us (N+1) D=Us N D++D N:=by simp[Us,ZT]
def Sy{D E:Nat->List Value}(h:∀i,i<N->D i=E i):Us N D=Us N E:=by
 induction N with
 |zero=>rfl
 |succ N ih=>rw[UL,UL,ih (λi a=>h i Qo),h N Qo]
def UU{D:Nat->List Value}(h:∀i,(D i).length=5):(Us N D).length=N*5:=by
 induction N with
 |zero=>rfl
 |succ N ih=>rw[UL,Zl,ih,h];omega
def UK{D:Nat->List Value}(h:∀i,(D i).length=5)(i j:Nat)(z:i<N)(H:j<5):(Us N D)[i*5+j]?=(D i)[j]?:=by
 induction N with
 |zero=>omega
 |succ N ih=>
  rw[UL];by_cases e:i<N
  .rw[Zv (by rw[UU h];omega)];exact ih e
  have:i=N:=Qo
  subst this;rw[ZG (by rw[UU h];omega),UU h,gw]
def K7{D:Nat->List Value}(h:∀i,(D i).length=5)(k j:Nat)(_hk:k<N)(z:j<5)(u:Value):(Us N D).set (k*5+j) u=Us N (λi=>if i=k then (D k).set j u else D i):=by
 have d:∀i,((λi=>if i=k then (D k).set j u else D i) i).length=5:=λi=>by
  by_cases e:i=k
  .simp[e,h]
  simp[e,h]
 refine fG (λx=>?_);rcases ZD x (N*5)with hx|hx
 .have f:x/5<N:=Nat.div_lt_of_lt_mul Qo;have g:=Nat.mod_lt x (show 0<5 by omega);have l:x/5*5+x%5=x:=by have:=Nat.div_add_mod x 5;omega
  have b:=UK h (x/5) (x%5) f g;have c:=UK d (x/5) (x%5) f g;rw[l]at b c;rw[c];by_cases e:x=k*5+j
  .have a:x/5=k:=Qo
   have e2:x%5=j:=Qo
   rw[e,fx (by rw[UU h];omega)];rw[<-e,a,e2];simp only[dB];rw[fx (by rw[h];omega)]
  rw[fA (λq=>e q.symm),b];by_cases a:x/5=k
  .simp only[a,dB];rw[fA (λq=>e Qo)]
  simp only[a,eU]
 rw[ZB (by simp[UU h];omega),ZB (by rw[UU d];omega)]
structure Pl where
 vin:Nat->Value
 ka:Nat->Option Addr
 kc:Nat->Nat
def LM(T:Nat->Nd)(m:Pl)(i:Nat):List Value:=WJ (T i) (m.vin i) (m.ka i) (m.kc i)
def Tl(T:Nat->Nd)(m:Pl)(i:Nat):(LM T m i).length=5:=rfl
def Wk(S:Nat->Prop)(w w':World):Prop:=∀k,S k->w'.heap[k]?=w.heap[k]?
def Wk.refl(S:Nat->Prop)(w:World):Wk S w w:=λ_ _=>rfl
def Wk.trans(a:Wk S w w1)(b:Wk S w1 w2):Wk S w w2:=λk c=>(b k c).trans (a k c)
structure TF (tb:Nat) (v v':Value) (S S':Nat->Prop) (w w':World):Prop where
 b:Below tb w w'
 k:∀k,k<w.heap.size->k≠tb->v.ownBlock≠some k->w'.heap[k]?=w.heap[k]?
 o:∀k,v'.ownBlock=some k->v.ownBlock=some k\/w.heap.size<=k
 s:∀k,S' k->S k\/w.heap.size<=k
def TF.of(v:Value)(S:Nat->Prop){w w':World}(z:tb<=w.heap.size)(h:Bl w w'):TF tb v v S S w w':=⟨h.mono z,λk a _ _=>h.block k a,λ_ h=>Or.inl h,λ_ h=>Or.inl h⟩
def TF.trans(a:TF tb v v1 S S1 w w1)(b:TF tb v1 v2 S1 S2 w1 w2):TF tb v v2 S S2 w w2:=by
 have hs:=a.b.size;refine⟨a.b.trans b.b,λk c h1 h2=>?_,λk c=>?_,λk c=>?_⟩
 .rw[b.k k Qo h1 (λe=>?_),a.k k c h1 h2];rcases a.o k e with h|h
  .exact h2 h
  omega
 .rcases b.o k c with h|h
  .exact a.o k h
  exact Or.inr Qo
 rcases b.s k c with h|h
 .exact a.s k h
 exact Or.inr Qo
structure OG (S:Nat->Prop) (T:Nat->Nd) (m:Pl) (N M:Nat) (w:World):Prop where
 o:∀i,i<N->(m.vin i).oneCell'=true
 k:∀i,i<N->∀w',Wk S w w'->IL (m.ka i) (fun k=>(((T i).kids.getD k 0:Nat):Int)) (T i).kids.length w'
 i:∀i,i<N->i<M->(T i).kind=0->∃ia ic,m.vin i=.slice ia 256 ic/\∀w',Wk S w w'->BR ia (T i).inn 256 w'
def OG.move{m:Pl}{M:Nat}(h:OG S T m N M w)(f:Wk S w w')(z:∀k,S k->S' k):OG S' T m N M w':=
 ⟨h.o,λi a w2 h2=>h.k i a w2 (f.trans (λk b=>h2 k (z k b))),λi a d h0=>by
  let⟨g,j,e,c⟩:=h.i i a d h0;exact⟨g,j,e,λw2 h2=>c w2 (f.trans (λk b=>h2 k (z k b)))⟩⟩
variable {T':Nat->Nd}
def OG.congr{m:Pl}{M:Nat}(h:OG S T m N M w)(e:∀i,i<N->(T' i).kind=(T i).kind/\(T' i).kids=(T i).kids/\(T' i).inn=(T i).inn):OG S T' m N M w:=
 ⟨h.o,λi a w2 h2=>by rw[(e i a).2.1];exact h.k i a w2 h2,λi a b h0=>by rw[(e i a).2.2];exact h.i i a b (by rw[<-(e i a).1];exact h0)⟩
structure TW (tb base:Nat) (T:Nat->Nd) (N M:Nat) (v vr:Value) (S:Nat->Prop) (w:World):Prop where
 c:TC tb [v,vr] w
 o:∃m:Pl,w.ownsRow base 118 5 v N (Us N (LM T m))/\OG S T m N M w
 s:∀k,S k->k<w.heap.size/\k≠tb/\v.ownBlock≠some k
def TW.blk{M:Nat}(h:TW tb base T N M v vr S w):∀k,v.ownBlock=some k->base<=k/\k<w.heap.size:=by
 let⟨m,h1,_⟩:=h.o;exact h1.lt
def XS{e:TypeId}(h:w.ownsRow base e size v n xs)(z:∀k,v.ownBlock=some k->w'.heap[k]?=w.heap[k]?):w'.ownsRow base e size v n xs:=by
 refine⟨h.1,?_⟩;rcases h.2 with h0|⟨g,cap,a,rfl,h1,h2,h3⟩
 .exact Or.inl h0
 exact Or.inr ⟨g,cap,a,rfl,h1,by rw[z g rfl];exact h2,h3⟩
def TW.keep{M:Nat}(h:TW tb base T N M v vr S w)(hs:w.heap.size<=w'.heap.size)(z:∀k,k=tb\/v.ownBlock=some k\/S k->w'.heap[k]?=w.heap[k]?):TW tb base T N M v vr S w':=by
 let⟨m,h1,h2⟩:=h.o;exact⟨h.c.block (z tb (Or.inl rfl)),⟨m,XS h1 (λk a=>z k (Or.inr (Or.inl a))),h2.move (λk a=>z k (Or.inr (Or.inr a))) (λ_ h=>h)⟩,λk a=>⟨by have:=(h.s k a).1;omega,(h.s k a).2⟩⟩
def TW.below{M:Nat}(h:TW tb base T N M v vr S w)(z:Bl w w'):TW tb base T N M v vr S w':=
 h.keep z.size (λk a=>z.block k (by
  rcases a with h1|h1|h1
  .rw[h1];exact h.c.lt
  .exact(h.blk k h1).2
  exact(h.s k h1).1))
def TW.tr{M:Nat}(h:TW tb base T N M v vr S w)(z:N<=M):TR tb T N w:=by
 let⟨m,h1,h2⟩:=h.o;have c0:=(h.c 0 _ rfl).1;rcases h1.2 with ⟨rfl,h0⟩|⟨g,cap,f,rfl,_⟩
 .subst h0;exact⟨none,0,c0,λi a=>Qo⟩
 refine⟨some (a_ g 0),cap,c0,λi a=>⟨g,0,m.vin i,m.ka i,m.kc i,rfl,λj u b=>?_,h2.o i a,h2.k i a w (Wk.refl _ _),λhz=>?_⟩⟩
 .have n:j<5:=by have:=(Zi.1 b).1;exact this
  have d:=h1.cells (g:=g) rfl (i*5+j) u (by rw[UK (Tl T m) i j a n];exact b);rw[fe,Zn]at d;rw[Zn];exact d
 let⟨p,q,e,l⟩:=h2.i i a Qo hz;exact⟨p,q,e,l w (Wk.refl _ _)⟩
def TW.more(h:TW tb base T (N+1) N v vr S w)(hz:(T N).kind≠0):TW tb base T (N+1) (N+1) v vr S w:=by
 let⟨m,h1,h2⟩:=h.o;refine⟨h.c,⟨m,h1,h2.o,h2.k,λi a _ h0=>h2.i i a ?_ h0⟩,h.s⟩;rcases ZD i N with h|h
 .exact h
 have:i=N:=Qo
 rw[this]at h0;exact absurd h0 hz
def TW.new(tb base:Nat)(vr:Value)(w:World)(z:TC tb [sN,vr] w)(T:Nat->Nd):TW tb base T 0 0 (sN) vr (λ_=>False) w:=
 ⟨z,⟨⟨λ_=>.int .i64 0,λ_=>none,λ_=>0⟩,⟨rfl,Or.inl ⟨rfl,rfl⟩⟩,λi a=>Qo,λi a=>Qo,λi a=>Qo⟩,λk h=>h.elim⟩
def Jz(P:Nat->Prop)(vk:Value)(kids:List Nat)(w:World):Prop:=∃ka kc,vk=.slice ka kids.length kc/\∀w',Wk P w w'->IL ka (λk=>((kids.getD k 0:Nat):Int)) kids.length w'
def Jz.nil(w:World):Jz (λ_=>False) (sN) [] w:=⟨none,0,rfl,λw' _ i a=>by simp at a⟩
def R0(kids:List Nat)(k:Nat):(kids.map (λx:Nat=>(x:Int))).getD k 0=((kids.getD k 0:Nat):Int):=by
 simp only[Zf,fT];cases kids[k]?<;>rfl
def Jz.of(h:OwnL b vk (kids.map (λx:Nat=>(x:Int))) w):Jz (λk=>vk.ownBlock=some k) vk kids w:=by
 let⟨ad,cap,e,il⟩:=h.il;rw[Zy]at e;refine⟨ad,cap,e,λw' m i n=>?_⟩;have l:=h.keep (λk p=>m k p);let⟨j,c,e',a⟩:=l.il;rw[e,Zy]at e';cases e';let⟨g,o,d,f⟩:=a i (by rw[Zy];exact n);refine⟨g,o,d,?_⟩;rw[f];simp only[R0]
end
section
open Bm
def G9(P R:Nat)(g:Nat->Bool):Prop:=∀q,q<104->g q=true->q<P\/(96<=q/\q<96+R)
def NK(P R:Nat):G9 P R Ve:=λq _ h=>by cases h
def Lx(es:Nat->Rx)(R:Nat)(_hP:Y4 es R<=96):G9 (Y4 es R) R (X6 es R):=λq c h=>by
 by_cases h1:q<96
 .obtain⟨k,b,a⟩:=(VO es R q h1).1 h;have h2:=(Rx.fst_rng _ _ _ a).2;have h3:=X7 es (show k+1<=R from b);simp only[Y4]at h3;exact Or.inl (by omega)
 have e:=Sa es R (q-96);rw[show 96+(q-96)=q by omega,h]at e;have:q-96<R:=by
  have:=e.symm;simp only[ZS,eB]at this;exact this.1
 exact Or.inr (by omega)
def Jn(es:Nat->Rx)(R:Nat)(_hP:Y4 es R<=96)(f:Nat->Bool)(b:Nat):G9 (Y4 es R) R (Wh es R f b):=λq i h=>by
 unfold Wh YC at h;obtain⟨p,d,h1⟩:=fY.1 h;have a:=ZI.1 d;simp only[ZS]at h1;obtain⟨k,k1,e,g⟩:=J6 es R p a;have h2:=h1.2;rw[Uv es R k p q k1 e g]at h2;simp only[dp,ZS,eB]at h2;rcases h2 with h2|⟨h2,_⟩
 .have h3:=(Rx.fol_rng _ _ _ _ h2).2.2.2;have c:=X7 es (show k+1<=R from k1);simp only[Y4]at c;exact Or.inl (by omega)
 exact Or.inr (by omega)
def QM{f:Nat->Bool}:∀(u d r:Nat),(∀x,r+u<=x->x<r+u+d->f x=false)->UY f (u+d) r=UY f u r
 |0,0,r,_=>rfl
 |0,d+1,r,h=>by
  have:=QM 0 d (r+1) (λx h1 h2=>h x (by omega) (by omega));rw[Zn]at this ⊢;show(if f r then (r:Int) else UY f d (r+1))=-1;rw[h r (by omega) (by omega),dG (by simp),this];rfl
 |u+1,d,r,h=>by
  rw[show u+1+d=(u+d)+1 by omega,UY,UY];split
  .rfl
  exact QM u d (r+1) (λx h1 h2=>h x (by omega) (by omega))
open Go.RowKit
end
