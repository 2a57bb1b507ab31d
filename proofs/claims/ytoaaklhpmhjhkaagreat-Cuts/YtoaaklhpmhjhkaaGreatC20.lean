import Derived.Test.YtoaaklhpmhjhkaaGreatC08
set_option maxRecDepth 100000
set_option maxHeartbeats 4000000
set_option linter.all false
namespace Go.Proofs.YtoaaklhpmhjhkaaGreat
open Go.Proofs.Tryz
section
open Go.RowKit
open Bm
structure xB (B:Nat) (M:Mc) (g1 g2:Nat) (vb vd vc vn:Value) (W:World):Prop where
 k1:Wt g1 M.cl M.ncl W
 k2:Wt g2 M.lb M.nlb W
 b:OwnL B vb M.st.bs W
 d:OwnL B vd M.st.df W
 c:OwnL B vc M.st.ck W
 n:OwnL B vn M.st.nt W
 bd:RK vb vd
 bc:RK vb vc
 bn:RK vb vn
 dc:RK vd vc
 dn:RK vd vn
 cn:RK vc vn
 o1:B<=g1
 o2:g1<g2
 o3:∀k,(vb.ownBlock=some k\/vd.ownBlock=some k\/vc.ownBlock=some k\/vn.ownBlock=some k)->g2<k
def Xj(M:Mc)(g1 g2:Nat)(vb vd vc vn:Value):Array Value:=#[.int .i64 M.rules,.slice (some ⟨g1,0,none⟩) M.ncl M.ncl,.slice (some ⟨g2,0,none⟩) M.nlb M.nlb,vb,vd,vc,vn]
def Ss(M:Mc)(w:World)(e:Ending)(w':World):Prop:=
 Below w.heap.size w w'/\((¬WH M/\e=.returned (.tuple #[.agg Yk,.int .i64 10])) \/
  (WH M/\∃g1 g2 vb vd vc vn,e=.returned (.tuple #[.agg (Xj M g1 g2 vb vd vc vn),.int .i64 0])/\xB w.heap.size M g1 g2 vb vd vc vn w'))
variable {bs ck df nt:List Int}{M:Mc}{B base cb g1 g2 n rb:Nat}{f:Nat->Int}{ad:Option Addr}{v vb vc vd vn:Value}{W w w':World}
def Cw(z:W.there w.heap.size 0 7)(H:Bl w W)(J:¬WH M):
  ∃W',W'=W.setCells w.heap.size 0 Yk.toList/\(loadVar 83 (a_ w.heap.size 0)).run prog W'=.ok (.agg Yk) W'/\Ss M w (.returned (.tuple #[.agg Yk,I6 10])) W':=by
 refine⟨_,rfl,?_,?_,Or.inl ⟨J,rfl⟩⟩
 .exact ZF (P:=prog) _ w.heap.size 0 83 Yk.toList _ (Zo W w.heap.size 0 Yk.toList z) u_f rfl YG
 exact H.grown (Y8 w.heap.size Yk.toList 0 W) H.size (λq a=>by cases a;exact Zg _)
def GT(w:World):(zeroValue 160).run prog w=.ok (.agg #[sN,sN]) w:=by
 go_simp
def Bm.OwnL.one{l:List Int}(h:OwnL B v l w):v.oneCell'=true:=by
 let⟨a,c,h1,_⟩:=h.il;rw[h1];rfl
variable {tb:Nat}
def P0.last{A:NZ}{ob:Nat}(h:P0 w M A rb tb g1 g2 ob cb base ck nt bs df vb vd vc vn W)(Z:WH M)(Y:Mc.st M=⟨ck,nt,bs,df⟩):
  TC tb [I6 M.rules,sL g1 M.ncl M.ncl,sL g2 M.nlb M.nlb,vb,vd,vc,sN] (W.setCell (a_ tb 5) vc) /\
  (W.setCell (a_ tb 5) vc).cell? (a_ cb 1)=some vn /\
  ((W.setCell (a_ tb 5) vc).setCell (a_ tb 6) vn).rangeAt tb 0 [I6 M.rules,sL g1 M.ncl M.ncl,sL g2 M.nlb M.nlb,vb,vd,vc,vn] /\
  ((W.setCell (a_ tb 5) vc).setCell (a_ tb 6) vn).there rb 0 7 /\
  ∃W',W'=((W.setCell (a_ tb 5) vc).setCell (a_ tb 6) vn).setCells rb 0 (Xj M g1 g2 vb vd vc vn).toList/\(loadVar 83 (a_ rb 0)).run prog W'=.ok (.agg (Xj M g1 g2 vb vd vc vn)) W'/\Ss M w (.returned (.tuple #[.agg (Xj M g1 g2 vb vd vc vn),I6 0])) W':=by
 have h0:=h.o0;have h1:=h.o1;have h2:=h.o2;have h3:=h.o3;have N:=h.o4;have O:=h.o5;have Q:=h.c.lt;have R:=h.bw;have F:=h.t.set 5 Qs vc;have G:=F.set 6 Qs vn;let⟨B,i⟩:=nam (W.setCell (a_ tb 5) vc);let⟨g,j⟩:=nam (B.setCell (a_ tb 6) vn);have r:∀q,q≠tb->B.heap[q]?=W.heap[q]?:=λq m=>by rw[i];exact Zq W (a_ tb 5) _ q (λe=>m e)
 have v:∀q,q≠tb->g.heap[q]?=W.heap[q]?:=λq m=>by rw[j,Zq B (a_ tb 6) _ q (λe=>m e),r q m]
 have o:Bl w g:=by
  rw[j,i];exact(h.bel.setCell (p:=(a_ tb 5)) (show w.heap.size<=tb by omega) _).setCell (p:=(a_ tb 6)) (show w.heap.size<=tb by omega) _
 have x:g.there rb 0 7:=Si h.z (v rb Qo);rw[<-i]at F G ⊢;rw[<-j]at G ⊢;refine⟨F,?_,G.range,x,_,rfl,?_,?_,Or.inr ⟨Z,g1,g2,vb,vd,vc,vn,rfl,?_⟩⟩
 .rw[eZ (w:=W) (a:=(a_ cb 1)) (r cb Qo)];exact(h.c.s 1 _ rfl).1
 .exact ZF (P:=prog) _ rb 0 83 (Xj M g1 g2 vb vd vc vn).toList _ (Zo g rb 0 (Xj M g1 g2 vb vd vc vn).toList x) u_f rfl YG
 .exact o.grown (Y8 rb _ 0 g) o.size (λq m=>by cases m;exact h0)
 have K:=Y8 rb (Xj M g1 g2 vb vd vc vn).toList 0 g;have L:W.heap.size<=g.heap.size:=by rw[j,i];simp[World.setCell]
 have C:∀q,q<W.heap.size->q≠tb->q≠rb->(g.setCells rb 0 (Xj M g1 g2 vb vd vc vn).toList).heap[q]?=W.heap[q]?:=λq m D E=>by
  rw[K.block q Qo (λe=>E (Zh e)),v q D]
 have H:M.st.ck=ck:=by rw[Y]
 have e2:M.st.nt=nt:=by rw[Y]
 have I:M.st.bs=bs:=by rw[Y]
 have J:M.st.df=df:=by rw[Y]
 have kl:∀(u:Value) (l:List Int),OwnL base u l W->OwnL w.heap.size u l (g.setCells rb 0 (Xj M g1 g2 vb vd vc vn).toList):=λu l y=>
  (y.keep (λk f=>C k (y.blk k f).2 (by have:=(y.blk k f).1;omega) (by have:=(y.blk k f).1;omega))).mono Qo
 refine⟨h.k1.block (C _ Qo Qo Qo),h.k2.block (C _ Qo Qo Qo),by rw[I];exact kl vb bs h.b,by rw[J];exact kl vd df h.d,by rw[H];exact kl vc ck h.c.c,by rw[e2];exact kl vn nt h.c.n,h.bd,h.bc,h.bn,h.dc,h.dn,h.c.ne,Qo,Qo,λk f=>?_⟩;rcases f with e|e|e|e
 .have:=(h.b.blk k e).1;omega
 .have:=(h.d.blk k e).1;omega
 .have:=(h.c.c.blk k e).1;omega
 have:=(h.c.n.blk k e).1;omega
def Nf(mb:Nat)(M:Mc)(A:NZ)(w:World)(hs:AP M)(hA:SU mb M A w)(hI:G0 M A w):
  Cp 35 #[pT mb] w (Ss M w):=by
 have hz:=Vy;have cc:=GT;obtain⟨W0,X⟩:∃W,W=w.alloc (.cells #[I6 0,sN,sN,sN,sN,sN,sN] 83):=⟨_,rfl⟩;have aK:W0.there w.heap.size 0 7:=by rw[X];exact Pi w _
 have T:Bl w W0:=by rw[X];exact X5 _ _
 have aJ:w.heap.size<W0.heap.size:=by rw[X];simp
 have HS:Hid (Cp 69 #[pT mb] W0 (Xz (WH M) W0)):=L2 mb M A W0 hs (hA.below T) (hI.below T);have HI:Hid (G0 M A w):=hI;have HA:Hid (SU mb M A w):=hA;have am:Hid (AP M):=hs;clear hA hI hs;go_enter func35,ntmps35;go_wp2_with fail;rw[<-X];clear X;apply HS.o.mono;rintro e w1 ⟨p,rfl,hp,aa⟩;have Hp:Hid (p=true<->WH M):=hp;have ae:=Yi aK Qo aa;have C:=T.trans (aa.mono T.size);have ap:w.heap.size<w1.heap.size:=ZH aJ aa.size;clear hp aK T aJ aa HS;cases p
 .obtain⟨W1,aL,af,a5⟩:=Cw ae C (λh=>by have:=Hp.o.2 h;cases this);have bt:Hid (Ss M w (.returned (.tuple #[.agg Yk,I6 10])) W1):=a5;have bv:Hid (W1=w1.setCells w.heap.size 0 Yk.toList):=aL;have bp:Hid ((loadVar 83 (a_ w.heap.size 0)).run prog W1=.ok (.agg Yk) W1):=af;clear a5 aL af;go_wp2_with (first|(apply Za rfl 83 _ _ rfl w.heap.size 0 Yk rfl rfl ae YG (by simp[Yk,Value.oneCell']);rw[<-bv.o]));refine Zr (v:=.tuple #[.agg Yk,I6 10]) (Yd results35 rfl bp.o rfl) rfl bt.o
 have O:Hid (WH M):=Hp.o.1 rfl;clear Hp;have aN:M.ncl=256:=by
  have hp:=O.o.hd.2.2.1;unfold Vc at hp;by_cases e:M.ncl=256
  .exact e
  rw[dG e]at hp;omega
 have bA:Hid (M.ncl=256):=aN;have bK:=O.o.hd.2.1;have j:M.k<=256:=MA _ _;have a0:M.nnx<=24576:=by rw[O.o.e];exact dP bK.2 j
 have ag:Hid (∀s,s<M.nlb->s*M.k+M.k<=M.nnx):=λs bP=>by
  rw[O.o.e,<-du];exact ZQ _ bP
 obtain⟨B,J⟩:∃W,W=w1.alloc (.cells #[I6 M.rules,sN,sN,sN,sN,sN,sN] 83):=⟨_,rfl⟩;have x1:Bl w1 B:=by rw[J];exact X5 _ _
 have t2:TC w1.heap.size [I6 M.rules,sN,sN,sN,sN,sN,sN] B:=by
  rw[J];exact TC.boxed w1 _ _
 have z2:B.heap.size=w1.heap.size+1:=by rw[J];simp
 have m0:=((HA.o.below C).below (X5 w1 (.cells #[I6 0,sN,sN,sN,sN,sN,sN] 83))).c0;have P:=C.trans (x1.mono C.size);have T2:=Yi ae Qo x1;have m1:=(HA.o.below P).c1;rw[J]at m1;have aw:Hid (Cp 70 #[.slice A.a1 M.ncl A.c1] B λe w'=>e=.returned (.slice (some (a_ B.heap.size 0)) M.ncl M.ncl)/\Wt B.heap.size M.cl M.ncl w'/\Bl B w'):=MB _ _ _ _ _ (by have:=am.o.s1;omega) (HI.o.below P).l1;clear aN;have aC:Hid (B.heap.size=w1.heap.size+1):=z2;clear z2;go_wp2_with fail;rw[<-J];clear J m0 m1;apply aw.o.mono;rintro e w3 ⟨rfl,n3,b3⟩;clear aw;have T3:=Yi T2 Qo b3;have t3:=t2.below b3;have aF:=P.trans (b3.mono P.size);obtain⟨l,D⟩:∃W,W=w3.setCell (a_ w1.heap.size 1) (.slice (some (a_ B.heap.size 0)) M.ncl M.ncl):=⟨_,rfl⟩;have k4:∀q,q≠w1.heap.size->l.heap[q]?=w3.heap[q]?:=λq hq=>by rw[D];exact Zq w3 (a_ w1.heap.size 1) _ q (λe=>hq e)
 have t4:=t3.set 1 Qs (.slice (some (a_ B.heap.size 0)) M.ncl M.ncl);rw[<-D]at t4;have Q:Bl w l:=by rw[D];exact aF.setCell (p:=(a_ w1.heap.size 1)) (ZM ap) _
 have ai:w1.heap.size<B.heap.size:=by rw[aC.o];omega
 have n4:Wt B.heap.size M.cl M.ncl l:=n3.block (k4 _ Qo);have T4:l.there w.heap.size 0 7:=Si T3 (k4 _ Qo);have z4:l.heap.size=w3.heap.size:=by rw[D];simp[World.setCell]
 have aO:B.heap.size<w3.heap.size:=n3.lt (by rw[bA.o];omega);obtain⟨q1,av⟩:=t3 1 _ rfl;have m2:=(HA.o.below Q).c2;rw[D]at m2;have ax:Hid (Cp 70 #[.slice A.a2 M.nlb A.c2] l λe w'=>e=.returned (.slice (some (a_ l.heap.size 0)) M.nlb M.nlb)/\Wt l.heap.size M.lb M.nlb w'/\Bl l w'):=MB _ _ _ _ _ (by have:=am.o.s2;omega) (HI.o.below Q).l2;have aD:Hid (l.heap.size=w3.heap.size):=z4;have bB:Hid (∀q,q≠w1.heap.size->l.heap[q]?=w3.heap[q]?):=k4;clear z4 k4 t2 t3 T2 T3 n3;go_wp2_with fail;rw[<-D];clear D m2 q1 av;apply ax.o.mono;rintro e w5 ⟨rfl,n5,b5⟩;clear ax;have T5:=Yi T4 Qo b5;have t5:=t4.below b5;have aG:=Q.trans (b5.mono Q.size);have bf:=n4.below b5;have aP:B.heap.size<l.heap.size:=by rw[aD.o];exact aO
 obtain⟨m,F⟩:∃W,W=w5.setCell (a_ w1.heap.size 2) (.slice (some (a_ l.heap.size 0)) M.nlb M.nlb):=⟨_,rfl⟩;have k6:∀q,q≠w1.heap.size->m.heap[q]?=w5.heap[q]?:=λq hq=>by rw[F];exact Zq w5 (a_ w1.heap.size 2) _ q (λe=>hq e)
 have t6:=t5.set 2 Qs (.slice (some (a_ l.heap.size 0)) M.nlb M.nlb);rw[<-F]at t6;have H:Bl w m:=by rw[F];exact aG.setCell (p:=(a_ w1.heap.size 2)) (ZM ap) _
 have n6:Wt B.heap.size M.cl M.ncl m:=bf.block (k6 _ Qo);have l6:Wt l.heap.size M.lb M.nlb m:=n5.block (k6 _ Qo);have T6:m.there w.heap.size 0 7:=Si T5 (k6 _ Qo);have z6:m.heap.size=w5.heap.size:=by rw[F];simp[World.setCell]
 have aQ:l.heap.size<w5.heap.size:=n5.lt Qo;obtain⟨q1,av⟩:=t5 2 _ rfl;have m1:=(HA.o.below H).c1;rw[F]at m1;have ay:Hid (Cp 71 #[.slice A.a1 M.ncl A.c1] m λe w'=>e=.returned (I6 M.k)/\w'=m):=WR _ _ _ _ _ (by have:=am.o.s1;unfold maxLen;omega) (HI.o.below H).l1;have aR:l.heap.size<m.heap.size:=by rw[z6];exact aQ
 have m3:=(HA.o.below H).c3;clear z6 k6 t4 t5 T4 T5 n4 bf n5;go_wp2_with fail;rw[<-F];clear F m1 q1 av;apply ay.o.mono;rintro e m ⟨rfl,rfl⟩;clear ay;obtain⟨W7,K⟩:∃W,W=m.alloc (.cells #[I6 M.k,.slice A.a3 M.nnx A.c3] 158):=⟨_,rfl⟩;obtain⟨W8,L⟩:∃W,W=W7.alloc (.cells #[sN,sN] 160):=⟨_,rfl⟩;have x7:Bl m W7:=by rw[K];exact X5 _ _
 have x8:Bl W7 W8:=by rw[L];exact X5 _ _
 have N:=x7.trans (x8.mono x7.size);have z7:W7.heap.size=m.heap.size+1:=by rw[K];simp
 have z8:W8.heap.size=W7.heap.size+1:=by rw[L];simp
 have r8:TC m.heap.size [I6 M.k,.slice A.a3 M.nnx A.c3] W8:=by
  have h:TC m.heap.size [I6 M.k,.slice A.a3 M.nnx A.c3] W7:=by rw[K];exact TC.boxed _ _ _
  exact h.below x8
 have c8:TC W7.heap.size [sN,sN] W8:=by rw[L];exact TC.boxed _ _ _
 have S0:P0 w M A w.heap.size w1.heap.size B.heap.size l.heap.size m.heap.size W7.heap.size W8.heap.size (Pk.run M.nx M.k 0).ck (Pk.run M.nx M.k 0).nt (Pk.run M.nx M.k 0).bs (Pk.run M.nx M.k 0).df (sN) (sN) (sN) (sN) W8:=by
  refine⟨Yi T6 Qo N,t6.below N,n6.below N,l6.below N,r8,⟨c8,OwnL.nil _ _,OwnL.nil _ _,λk j=>(by cases j),Qo⟩,OwnL.nil _ _,OwnL.nil _ _,λk j=>(by cases j),λk j=>(by cases j),λk j=>(by cases j),λk j=>(by cases j),λk j=>(by cases j),H.trans (N.mono H.size),Zg _,Zg _,ap,ai,aP,aR,Qo⟩
 rw[K]at L;clear x7 x8 N r8 c8 T6 t6 n6 l6 aR aQ aP aO ai P aF Q aG b3 b5 ae C x1;have aE:Hid (W7.heap.size=m.heap.size+1):=z7;have bz:Hid (W7=m.alloc (.cells #[I6 M.k,.slice A.a3 M.nnx A.c3] 158)):=K;clear z7 z8 K;go_wp2_with fail;rw[<-L];clear L m3 H;rw[aE.o]at S0;clear aE bz aC aD bB;generalize W8.heap.size=base at *;generalize m.heap.size=ob at *;generalize l.heap.size=g2 at *;generalize B.heap.size=g1 at *;generalize w1.heap.size=tb at *
 go_loopw [9] (λx w'=>∃(s:Nat) (vb vd vc vn:Value),s<=M.nlb/\x=I6 s/\P0 w M A w.heap.size tb g1 g2 ob (ob+1) base (Pk.run M.nx M.k s).ck (Pk.run M.nx M.k s).nt (Pk.run M.nx M.k s).bs (Pk.run M.nx M.k s).df vb vd vc vn w') (λx _=>M.nlb-(intOf x).toNat)
 .exact⟨0,_,_,_,_,Qo,rfl,S0⟩
 clear S0;obtain⟨s,vb,vd,vc,vn,hs,rfl,S⟩:=hrel;have m2:=(HA.o.below S.bel).c2;have I:=Pk.inv M.nx M.k s;by_cases aZ:s<M.nlb
 .have b0:(s:Int)<(M.nlb:Int):=Qo
  have bY:(Pk.run M.nx M.k s).ck.length<=24576:=ZJ I.l2 (ZJ (dP (show s<=96 by omega) j) Qo);have b8:(Pk.run M.nx M.k s).df.length<=96:=by rw[I.l4];omega
  have b7:(Pk.run M.nx M.k s).bs.length<=96:=by rw[I.l3];omega
  have af:=I.l1;have HN:Hid (Cp 72 #[pT ob,I6 s] wr λe w'=>∃v,e=.returned (.tuple #[I6 (Pk.df M.nx M.k s),v])/\OwnL wr.heap.size v (Ug (Pk.own M.nx M.k s)) w'/\Bl wr w'):=Er ob M.k A.a3 M.nnx A.c3 M.nx s wr (S.rw HI) j a0 Qo (ag s aZ);have al:Hid (Pk.run M.nx M.k (s+1)=Pk.step M.nx M.k (Pk.run M.nx M.k s) s):=rfl;have bC:Hid ((Pk.own M.nx M.k s).length<=256):=by
   show _<=_;unfold Pk.own;rw[Pk.near_own];exact ZJ (Pk.dif_len _ _ _ _ _) j
  have ak:Hid (∀c∈Pk.own M.nx M.k s,c<M.k):=λc hc=>Pk.own_lt hc
  unfold Pk.step at al;clear I;generalize Pk.run M.nx M.k s=R at *;generalize Pk.own M.nx M.k s=own at *;have bN:=bC.o;go_wp2_with fail;apply HN.o.mono;rintro e w2 ⟨v2,rfl,U,aH⟩;have ar:∀k,v2.ownBlock=some k->wr.heap.size<=k:=λk j=>(U.blk k j).1
  have S2:=S.below aH;have n1:RK v2 vc:=λk h1 h2=>by have:=ar k h1;have:=(S.c.c.blk k h2).2;omega
  have n2:RK v2 vn:=λk h1 h2=>by have:=ar k h1;have:=(S.c.n.blk k h2).2;omega
  have ah:base<=wr.heap.size:=S.bw;have aj:Hid (Cp 73 #[.pointer (some (a_ (ob+1) 0)),v2] w2 λe w'=>e=.returned (I6 (Pk.bas R.ck own))/\w'=w2):=H9 base (ob+1) vc vn R.ck R.nt _ v2 own w2 S2.c U Qo bN (λc hc=>by have:=ak.o c hc;omega);obtain⟨f,aq⟩:∃f,f=Pk.bas R.ck own:=⟨_,rfl⟩;have bW:f<=R.ck.length:=by rw[aq];exact(Pk.bas_spec _ _).2.1
  rw[<-aq]at aj al;have aB:Hid (∀i,(Pk.lay M.nx M.k s f (own.take i) (R.ck,R.nt)).1.length=(Pk.lay M.nx M.k s f (own.take i) (R.ck,R.nt)).2.length/\(Pk.lay M.nx M.k s f (own.take i) (R.ck,R.nt)).1.length<=24576+256):=λi=>by
   have h:=Pk.lay_len M.nx M.k s f (own.take i) (R.ck,R.nt) af (λc hc=>ak.o c (fZ hc));refine⟨h.1,?_⟩;have:=h.2.2;simp only at this;omega
  clear aq HN S m2 aH;obtain⟨a2,c2,rfl,_⟩:=U.il;rw[TT]at *;have bX:f<=24576:=Qo
  go_wp2_with fail;apply aj.o.mono;rintro e w2 ⟨rfl,rfl⟩;clear aj;go_wp2_with fail
  go_loopw [67] (λx w'=>∃(i:Nat) (vc' vn':Value),i<=own.length/\x=I6 i/\P0 w M A w.heap.size tb g1 g2 ob (ob+1) base (Pk.lay M.nx M.k s f (own.take i) (R.ck,R.nt)).1 (Pk.lay M.nx M.k s f (own.take i) (R.ck,R.nt)).2 R.bs R.df vb vd vc' vn' w'/\OwnL base (.slice a2 own.length c2) (Ug own) w'/\RK (.slice a2 own.length c2) vc'/\RK (.slice a2 own.length c2) vn') (λx _=>own.length-(intOf x).toNat)
  .exact⟨0,vc,vn,Qo,rfl,by rw[f7];exact S2,U.mono ah,n1,n2⟩
  clear S2 n1 n2 U ar ah;obtain⟨i,vc',vn',hi,rfl,Z,ac,n1,n2⟩:=hrel;by_cases aU:i<own.length
  .have bZ:(i:Int)<(own.length:Int):=Qo
   obtain⟨c,hc⟩:∃c,own[i]?=some c:=⟨own[i],Zd aU⟩;have bH:=ak.o c (dI hc);obtain⟨b2,bU,a7,bd⟩:=ac.il;obtain⟨gv,ov,aT,cv⟩:=bd i (by rw[TT];exact aU);have a8:=(fI a7).1;rw[aT]at a8;subst a8;simp only[Ff hc]at cv;have HL:Hid (Cp 74 #[pT ob,I6 s,I6 c] wr λe w'=>e=.returned (I6 (Pk.ld M.nx M.k s c))/\Bl wr w'):=PF ob M.k A.a3 M.nnx A.c3 M.nx s c wr (Z.rw HI) j a0 (Or.inr ⟨s,rfl,Qo,ag s aZ⟩) bH;have HT:Hid (Pk.lay M.nx M.k s f (own.take (i+1)) (R.ck,R.nt)=(Pk.put (Pk.lay M.nx M.k s f (own.take i) (R.ck,R.nt)).1 (f+c) s,Pk.put (Pk.lay M.nx M.k s f (own.take i) (R.ck,R.nt)).2 (f+c) (Pk.ld M.nx M.k s c))):=BW M.nx M.k s f own (R.ck,R.nt) i c hc;obtain⟨be,bT⟩:=aB.o i;obtain⟨k,ik⟩:∃k:Nat,(f:Int)+(c:Int)=(k:Int):=⟨f+c,Qo⟩;have au:k=f+c:=Qo
   have az:Hid (∀w',P0 w M A w.heap.size tb g1 g2 ob (ob+1) base (Pk.lay M.nx M.k s f (own.take i) (R.ck,R.nt)).1 (Pk.lay M.nx M.k s f (own.take i) (R.ck,R.nt)).2 R.bs R.df vb vd vc' vn' w'->Cp 75 #[.pointer (some (a_ (ob+1) 0)),I6 k,I6 s,I6 (Pk.ld M.nx M.k s c)] w' λe w''=>e=.returned (.tuple #[])/\∃vc'' vn'',Cs base (ob+1) vc'' vn'' (Pk.put (Pk.lay M.nx M.k s f (own.take i) (R.ck,R.nt)).1 (f+c) s) (Pk.put (Pk.lay M.nx M.k s f (own.take i) (R.ck,R.nt)).2 (f+c) (Pk.ld M.nx M.k s c)) w''/\WG (ob+1) vc' vn' vc'' vn'' w' w''):=λw' h'=>by
    rw[<-au];exact As base (ob+1) vc' vn' _ _ k s (Pk.ld M.nx M.k s c) w' h'.c be Qo Qo h'.bw
   have b1:Hid (k=f+c):=au;clear bd a7 aT be bT au hc;go_wp2_with fail;apply HL.o.mono;rintro e w4 ⟨rfl,an⟩;have S4:=Z.below an;have V:=ac.below an;clear Z ac an HL cv;go_wp2_with fail;apply(az _ S4).mono;rintro e w5 ⟨rfl,bi,bm,C5,P5⟩;have S5:=S4.put C5 P5;have ao:OwnL base (.slice (some (a_ gv ov)) own.length c2) (Ug own) w5:=V.keep (λk j=>P5.kept k (V.blk k j).2 (by have:=(V.blk k j).1;have:=S4.c.lt;omega) (n1 k j) (n2 k j));have n3:RK (.slice (some (a_ gv ov)) own.length c2) bi:=λk h1 h2=>by
    rcases P5.oc k h2 with e|e
    .exact n1 k h1 e
    have:=(V.blk k h1).2;omega
   have n4:RK (.slice (some (a_ gv ov)) own.length c2) bm:=λk h1 h2=>by
    rcases P5.on k h2 with e|e
    .exact n2 k h1 e
    have:=(V.blk k h1).2;omega
   go_wp2_with fail;go_roundw
   .refine⟨i+1,bi,bm,Qo,Qg,?_,ao,n3,n4⟩;rw[HT.o];exact S5
   simp[intOf];omega
  have bJ:¬(i:Int)<(own.length:Int):=Qo
  have aV:own.take i=own:=fR Qo;rw[aV]at Z;clear ac n1 n2 aV;obtain⟨ad,cd,rfl,_⟩:=Z.d.il;obtain⟨ab,cb,rfl,_⟩:=Z.b.il;have d4:=(Z.t 4 _ rfl).1;obtain⟨aI,_,bM,bG,aW,_⟩:=Z.ready (Pk.df M.nx M.k s);have bn:Hid (∀w5,(wr.alloc (.cells #[I6 (Pk.df M.nx M.k s)] 3)).grownBy w5 (Value.slice ad R.df.length cd).ownBlock->w5.cell? (a_ tb 4)=some (.slice ad R.df.length cd)/\w5.frozen? (a_ tb 4)=false):=aW;have HX:Hid (∀g cap w5,OwnL base (sL g (R.df.length+1) cap) (R.df++[Pk.df M.nx M.k s]) w5->(wr.alloc (.cells #[I6 (Pk.df M.nx M.k s)] 3)).grownBy w5 (Value.slice ad R.df.length cd).ownBlock->((Value.slice ad R.df.length cd).ownBlock=some g\/g=(wr.alloc (.cells #[I6 (Pk.df M.nx M.k s)] 3)).heap.size) ->
    P0 w M A w.heap.size tb g1 g2 ob (ob+1) base (Pk.lay M.nx M.k s f own (R.ck,R.nt)).1 (Pk.lay M.nx M.k s f own (R.ck,R.nt)).2 R.bs (R.df++[Pk.df M.nx M.k s]) (.slice ab R.bs.length cb) (sL g (R.df.length+1) cap) vc' vn' (w5.setCell (a_ tb 4) (sL g (R.df.length+1) cap))):=λg cap w5 h1 h2 h3=>Z.pushD rfl h1 h2 h3
  clear Z aW;have br:Hid (∀(w5:World) (a:Addr) (u bj:Value),P0 w M A w.heap.size tb g1 g2 ob (ob+1) base (Pk.lay M.nx M.k s f own (R.ck,R.nt)).1 (Pk.lay M.nx M.k s f own (R.ck,R.nt)).2 R.bs (R.df++[Pk.df M.nx M.k s]) (.slice ab R.bs.length cb) bj vc' vn' (w5.setCell a u) ->
    OwnL base (.slice ab R.bs.length cb) R.bs ((w5.setCell a u).alloc (.cells #[I6 (f:Int)] 3))/\((w5.setCell a u).alloc (.cells #[I6 (f:Int)] 3)).cell? (a_ w5.heap.size 0)=some (I6 (f:Int))/\base<=((w5.setCell a u).alloc (.cells #[I6 (f:Int)] 3)).heap.size /\
    ∀w7,((w5.setCell a u).alloc (.cells #[I6 (f:Int)] 3)).grownBy w7 (Value.slice ab R.bs.length cb).ownBlock->w7.cell? (a_ tb 3)=some (.slice ab R.bs.length cb)/\w7.frozen? (a_ tb 3)=false):=λw5 a u bj h=>by
   have bR:(w5.setCell a u).heap.size=w5.heap.size:=by simp[World.setCell]
   obtain⟨_,h2,h3,h4,_,h6⟩:=h.ready (f:Int);rw[bR]at h3;exact⟨h2,h3,h4,h6⟩
  go_wp2_with (first
   |(at_builtin;apply wpList_append_int Qr _ _ Qr base (.slice ad R.df.length cd) R.df Qr aI Qo wr.heap.size (Pk.df M.nx M.k s) Qr bM bG _ rfl;intro g cap w5 ao Y bI b9;obtain⟨c5,b4⟩:=bn.o w5 Y;have S5:=HX.o g cap w5 ao Y bI;have c6:=(S5.t 3 _ rfl).1;obtain⟨bD,bL,bF,aX⟩:=br.o w5 _ _ _ S5;have bo:Hid (∀w7,((w5.setCell (a_ tb 4) (sL g (R.df.length+1) cap)).alloc (.cells #[I6 (f:Int)] 3)).grownBy w7 (Value.slice ab R.bs.length cb).ownBlock->w7.cell? (a_ tb 3)=some (.slice ab R.bs.length cb)/\w7.frozen? (a_ tb 3)=false):=aX;clear aX aI)
   |(at_builtin;apply wpList_append_int Qr _ _ Qr base (.slice ab R.bs.length cb) R.bs Qr bD Qo w5.heap.size (f:Int) Qr bL bF _ rfl;intro g7 bV w7 bE G aS ca;obtain⟨c7,b6⟩:=bo.o w7 G))
  have S7:=S5.pushB rfl bE G aS;go_roundw
  .have E:∀vb vd vc vn W,P0 w M A w.heap.size tb g1 g2 ob (ob+1) base (Pk.lay M.nx M.k s f own (R.ck,R.nt)).1 (Pk.lay M.nx M.k s f own (R.ck,R.nt)).2 (R.bs++[(f:Int)]) (R.df++[Pk.df M.nx M.k s]) vb vd vc vn W->P0 w M A w.heap.size tb g1 g2 ob (ob+1) base (Pk.run M.nx M.k (s+1)).ck (Pk.run M.nx M.k (s+1)).nt (Pk.run M.nx M.k (s+1)).bs (Pk.run M.nx M.k (s+1)).df vb vd vc vn W:=by
    rw[al.o];exact λ_ _ _ _ _ h=>h
   exact⟨s+1,_,_,_,_,Qo,Qg,E _ _ _ _ _ S7⟩
  simp[intOf];omega
 have bJ:¬(s:Int)<(M.nlb:Int):=Qo
 have bQ:s=M.nlb:=Qo
 subst bQ;obtain⟨o,r,a9,_⟩:=S.c.c.il;obtain⟨y,z,bc,_⟩:=S.c.n.il;generalize (Pk.run M.nx M.k M.nlb).ck.length=lc at a9;generalize (Pk.run M.nx M.k M.nlb).nt.length=ln at bc;subst a9;subst bc;obtain⟨t5,cg,bO,bS,W9,aM,aY,a6⟩:=S.last O (by unfold Mc.st;rfl);obtain⟨q5,ce⟩:=S.t 5 _ rfl;obtain⟨q6,cf⟩:=t5 6 _ rfl;have c0:=(S.c.s 0 _ rfl).1;have bu:Hid (Ss M w (.returned (.tuple #[.agg (Xj M g1 g2 vb vd (.slice o lc r) (.slice y ln z)),I6 0])) W9):=a6;have aA:Hid (W9=((wr.setCell (a_ tb 5) (.slice o lc r)).setCell (a_ tb 6) (.slice y ln z)).setCells w.heap.size 0 (Xj M g1 g2 vb vd (.slice o lc r) (.slice y ln z)).toList):=aM;have bq:Hid ((loadVar 83 (a_ w.heap.size 0)).run prog W9=.ok (.agg (Xj M g1 g2 vb vd (.slice o lc r) (.slice y ln z))) W9):=aY;have o1:=S.b.one;have o2:=S.d.one;have o3:=S.c.c.one;have o4:=S.c.n.one;have HO:Hid (vb.oneCell'=true/\vd.oneCell'=true/\(Value.slice o lc r).oneCell'=true/\(Value.slice y ln z).oneCell'=true):=⟨o1,o2,o3,o4⟩;have a4:(#[I6 M.rules,sL g1 M.ncl M.ncl,sL g2 M.nlb M.nlb,vb,vd,.slice o lc r,.slice y ln z]:Array Value).all (·.oneCell')=true:=Zj (λv hv=>by
  simp only[ZR,eM,or_false]at hv;rcases hv with rfl|rfl|rfl|rfl|rfl|rfl|rfl
  .rfl
  .rfl
  .rfl
  .exact HO.o.1
  .exact HO.o.2.1
  .rfl
  rfl)
 clear a6 aM aY t5 S o1 o2 o3 o4 HO;unfold Xj at aA;go_wp2_with (first
  |(refine Zb rfl 83 _ rfl tb 0 rfl [I6 M.rules,sL g1 M.ncl M.ncl,sL g2 M.nlb M.nlb,vb,vd,.slice o lc r,.slice y ln z] _ bO u_f rfl YG ?_)
  |(apply Za rfl 83 _ _ rfl w.heap.size 0 #[I6 M.rules,sL g1 M.ncl M.ncl,sL g2 M.nlb M.nlb,vb,vd,.slice o lc r,.slice y ln z] rfl rfl bS YG a4;rw[<-aA.o]))
 refine Zr (v:=.tuple #[.agg (Xj M g1 g2 vb vd (.slice o lc r) (.slice y ln z)),I6 0]) (Yd results35 rfl bq rfl) rfl bu.o
def If:∀ {k n:Nat},YD f k=some n->∀i,i<k->0<=f i/\f i<n
 |0,_,_,i,hi=>Qo
 |k+1,n,h,i,hi=>by
  rw[YD]at h;rcases hc:YD f k with _|m
  .rw[hc]at h;cases h
  rw[hc]at h;simp only at h;have a:=If hc;by_cases b:f k<0\/(m:Int)<f k
  .rw[dF b]at h;cases h
  rw[dG b]at h;by_cases c:f k=m
  .rw[dF c]at h;cases h;by_cases e:i=k
   .subst e;omega
   have:=a i Qo;omega
  rw[dG c]at h;cases h;by_cases e:i=k
  .subst e;omega
  exact a i Qo
def WH.cl(h:WH M)(i:Nat)(z:i<256):0<=M.cl i/\M.cl i<M.k:=by
 have a:M.k=(YD M.cl 256).getD 0:=by unfold Mc.k Vc;rw[dF h.ncl]
 have b:=h.k1.1;rcases hc:YD M.cl 256 with _|m
 .rw[hc]at a;simp at a;omega
 rw[hc]at a;simp at a;have:=If hc i z;rw[a];exact this
def WH.at_(h:WH M)(s c:Nat)(hs:s<M.nlb)(z:c<M.k):-1<=M.nx (s*M.k+c)/\M.nx (s*M.k+c)<M.nlb:=by
 have a:=h.b (s*M.k+c) (by
  rw[h.e];have:(s+1)*M.k<=M.nlb*M.k:=ZQ _ hs;rw[du]at this;omega)
 omega
def Sf{M:Mc}(h:WH M):PX (Xw M):=by
 have I:Pk.Inv M.nx M.k M.nlb M.st:=Pk.inv M.nx M.k M.nlb;have r:=h.hd.2.1;have q:=h.k1;have b:∀j,j<M.st.ck.length->M.st.ck.getD j 0=M.st.ck.getD j (-1):=λj d=>UV _ _ _ _ d
 have f:∀j,j<M.st.ck.length->M.st.nt.getD j 0=M.st.nt.getD j (-1):=λj d=>UV _ _ _ _ (by rw[<-I.l1];exact d)
 refine⟨h.hd,I.l3,I.l4,I.l1.symm,?_,I.b3,λi p=>?_,λj d=>?_,?_⟩
 .exact ZJ I.l2 (dP r.2 q.2)
 .show -1<=M.st.df.getD i 0/\M.st.df.getD i 0<i;rw[I.b4 i p];exact Pk.df_bd _ _ _
 .unfold Vf;show(M.st.ck.getD j 0=-1/\M.st.nt.getD j 0=-1)\/_;have a:=d;rcases I.cs j a with ⟨h1,h2⟩|⟨i,c,h1,h2,h3,s,o⟩
  .left;rw[b j a,f j a];exact⟨h1,h2⟩
  right;have g:(Xw M).ck j=i:=by show M.st.ck.getD j 0=_;rw[b j a,h3]
  have e2:(Xw M).nx j=M.nx (i*M.k+c):=by show M.st.nt.getD j 0=_;rw[f j a,o,Pk.ld_nat]
  have l:(Xw M).bs i=M.st.bs.getD i 0:=rfl;have m:(Xw M).nlb=M.nlb:=rfl;have n:Vc (Xw M).cl (Xw M).ncl=M.k:=rfl;have:=h.at_ i c h1 h2;rw[g,e2,m,n,ZE,l];omega
 show M.st.ck.length=0\/M.st.ck.getD (M.st.ck.length-1) 0≠-1;rcases I.la with h0|h0
 .exact Or.inl h0
 by_cases e:M.st.ck.length=0
 .exact Or.inl e
 right;rw[b _ Qo];exact h0
def Ne(h:WH M)(c:Nat)(z:c<M.k):∀(u s:Nat),s<M.nlb->s<u->Mf (Xw M) u (s:Int) (c:Int)=M.nx (s*M.k+c)
 |0,s,_,hu=>Qo
 |u+1,s,hs,hu=>by
  have I:Pk.Inv M.nx M.k M.nlb M.st:=Pk.inv M.nx M.k M.nlb;have b:=Pk.leads I s c hs z;have j:=I.b3 s hs;obtain⟨k,i⟩:∃k:Nat,M.st.bs.getD s 0+(c:Int)=(k:Int):=⟨(M.st.bs.getD s 0+(c:Int)).toNat,Qo⟩;have f:(Xw M).bs s+(c:Int)=(k:Int):=i;rw[i,ZE]at b;by_cases a:(k:Int)<(M.st.ck.length:Int)/\M.st.ck.getD k (-1)=(s:Int)
  .rw[dF a]at b;rw[BY f (show k<M.st.ck.length by omega) (by show M.st.ck.getD k 0=_;rw[UV _ _ 0 (-1) Qo];exact a.2)];show M.st.nt.getD k 0=_;rw[UV _ _ 0 (-1) (by rw[<-I.l1];omega),b,Pk.ld_nat]
  rw[dG a]at b;rw[Ga f (λe=>a ⟨by have:=e.1;have e2:(Xw M).nck=M.st.ck.length:=rfl;omega,by
   have h1:=e.1;have e2:(Xw M).nck=M.st.ck.length:=rfl;rw[<-UV _ _ 0 (-1) Qo];exact e.2⟩)]
  show Mf (Xw M) u (M.st.df.getD s 0) c=_;rw[I.b4 s hs]at b ⊢;have l:=Pk.df_bd M.nx M.k s;rw[<-Pk.ld_nat M.nx M.k s c,b];by_cases e:Pk.df M.nx M.k s=-1
  .rw[e,IJ,Pk.ld_none]
  let⟨d,g⟩:=ZA (show 0<=Pk.df M.nx M.k s by omega);rw[g,Ne h c z u d Qo Qo,Pk.ld_nat]
def Ej(h:WH M)(s b:Nat)(hs:s<M.nlb)(z:b<256):QI (Xw M) s b=M.nx (s*M.k+(M.cl b).toNat):=by
 have f:=h.hd.2.1;have e:=h.cl b z;unfold QI;have d:(Xw M).nlb=M.nlb:=rfl;rw[dG (by rw[d];omega),ZE];show Mf (Xw M) 97 s (M.cl b)=_;let⟨c,a⟩:=ZA e.1;rw[a,ZE];exact Ne h c Qo 97 s hs Qo
end
section
open Go.RowKit
open Bm
variable {M:Mc}{B base g1 g2 n:Nat}{f:Nat->Int}{ad:Option Addr}{v vb vc vd vn:Value}{W w w':World}
def xB.tb(h:xB B M g1 g2 vb vd vc vn W):∃A:QZ,Xj M g1 g2 vb vd vc vn=A.cells (Xw M)/\Tz (Xw M) A W:=by
 let⟨a,c3,h3,m⟩:=h.b.il;let⟨e,c4,j,o⟩:=h.d.il;let⟨f,c5,k,p⟩:=h.c.il;let⟨g,i,l,q⟩:=h.n.il;refine⟨⟨some (a_ g1 0),M.ncl,some (a_ g2 0),M.nlb,a,c3,e,c4,f,c5,g,i⟩,?_,h.k1.il (Zg _),h.k2.il (Zg _),m,o,p,q⟩;rw[h3,j,k,l];rfl
def Cv(h:WH M):Dw (Xw M):=by
 have a:=Sf h;have c:=h.hd.2.1;have h1:=h.ncl;have b:(Xw M).ncl=M.ncl:=rfl;have e2:(Xw M).nlb=M.nlb:=rfl;have:=a.e3;have:=a.e4;have:=a.e5;have:=a.e6;exact⟨Qo,Qo,Qo,Qo,Qo,Qo⟩
end
section
open Go.RowKit
def UT(l:List UInt8)(i:Nat):Int:=((l.getD i 0).toNat:Int)
def E9(l:List UInt8)(i:Nat):fb ⟨l.toArray⟩ i=UT l i:=by simp[fb,UT]
def VM(a b:List UInt8)(i:Nat):UT (a++b) (a.length+i)=UT b i:=by
 simp[UT,Zf,ZG]
def Vs(a b:List UInt8)(i:Nat)(h:i<a.length):UT (a++b) i=UT a i:=by
 simp[UT,Zf,Zv h]
def E7(x:Int):UT [YV x] 0=x%256:=by
 have:=XY x;simpa[UT]using this
def Qi(f:Nat->Int)(more:Int):∀(n i:Nat),i<n->UT (XA f n more) i=(f i+more)%256
 |0,i,h=>Qo
 |n+1,i,h=>by
  rw[Lf];by_cases e:i=n
  .subst e;have:=VM (XA f i more) [YV (f i+more)] 0;rw[WQ,eP]at this;rw[this,E7]
  rw[Vs _ _ _ (by rw[WQ];omega)];exact Qi f more n i Qo
def Ri(f g:Nat->Int):∀(n i:Nat),i<n->UT (X4 f g n) (2*i)=(f i+1)%256/\UT (X4 f g n) (2*i+1)=(g i+1)%256
 |0,i,h=>Qo
 |n+1,i,h=>by
  rw[Vq];by_cases e:i=n
  .subst e;have h0:=VM (X4 f g i) [YV (f i+1),YV (g i+1)] 0;have h1:=VM (X4 f g i) [YV (f i+1),YV (g i+1)] 1;rw[Wv]at h0 h1;rw[eP]at h0;rw[h0,h1];have a:=XY (f i+1);have b:=XY (g i+1);exact⟨by simpa[UT]using a,by simpa[UT]using b⟩
  rw[Vs _ _ _ (by rw[Wv];omega),Vs _ _ _ (by rw[Wv];omega)];exact Ri f g n i Qo
def Up(f:Nat->Int):∀n,(Yu f n 1).length=n
 |0=>by simp[Yu]
 |n+1=>by rw[Xv,Zl,Up f n];simp
def Vp(f:Nat->Int):∀n,(Yu f n 2).length=2*n
 |0=>by simp[Yu]
 |n+1=>by rw[Xv,Zl,Vp f n];simp;omega
def MH(f:Nat->Int):∀(n i:Nat),i<n->UT (Yu f n 1) i=f i%256
 |0,i,h=>Qo
 |n+1,i,h=>by
  rw[Xv];by_cases e:i=n
  .subst e;have h0:=VM (Yu f i 1) [YV (f i)] 0;rw[Up,eP]at h0;rw[g_,h0,E7]
  rw[Vs _ _ _ (by rw[Up];omega)];exact MH f n i Qo
def MJ(f:Nat->Int):∀(n i:Nat),i<n->UT (Yu f n 2) (2*i)=f i/256%256/\UT (Yu f n 2) (2*i+1)=f i%256
 |0,i,h=>Qo
 |n+1,i,h=>by
  rw[Xv,dF rfl];by_cases e:i=n
  .subst e;have h0:=VM (Yu f i 2) [YV (f i/256),YV (f i)] 0;have h1:=VM (Yu f i 2) [YV (f i/256),YV (f i)] 1;rw[Vp]at h0 h1;rw[eP]at h0;rw[h0,h1];have a:=XY (f i/256);have b:=XY (f i);exact⟨by simpa[UT]using a,by simpa[UT]using b⟩
  rw[Vs _ _ _ (by rw[Vp];omega),Vs _ _ _ (by rw[Vp];omega)];exact MJ f n i Qo
structure Dl (T U:Tb):Prop where
 r:T.rules=U.rules
 n1:T.ncl=U.ncl
 n2:T.nlb=U.nlb
 n3:T.nbs=U.nbs
 n4:T.ndf=U.ndf
 n5:T.nck=U.nck
 n6:T.nnx=U.nnx
 f1:∀i,i<T.ncl->T.cl i=U.cl i
 f2:∀i,i<T.nlb->T.lb i=U.lb i
 f3:∀i,i<T.nbs->T.bs i=U.bs i
 f4:∀i,i<T.ndf->T.df i=U.df i
 f5:∀i,i<T.nck->T.ck i=U.ck i
 f6:∀i,i<T.nnx->T.nx i=U.nx i
variable {base n:Nat}{f:Nat->Int}{ad:Option Addr}{v:Value}{w w':World}
def OM{g:Nat->Int}:∀k,(∀i,i<k->f i=g i)->YD f k=YD g k
 |0,_=>rfl
 |k+1,h=>by rw[YD,YD,OM k (λi a=>h i Qo),h k Qo]
def Pr{g:Nat->Int}(h:∀i,i<n->f i=g i):Vc f n=Vc g n:=by
 unfold Vc;split
 .rename_i e;subst e;rw[OM 256 h]
 rfl
def QO{g:Nat->Int}:∀k,(∀i,i<k->f i=g i)->YE f k=YE g k
 |0,_=>rfl
 |k+1,h=>by rw[YE,YE,QO k (λi a=>h i Qo),h k Qo]
def Rk{g:Nat->Int}{m:Int}(h:∀i,i<n->f i=g i):XA f n m=XA g n m:=by
 unfold XA;refine ZO (λi a=>?_);rw[h i (by simpa using a)]
def JI{g:Nat->Int}{m:Int}(h:∀i,i<n->f i=g i):Yu f n m=Yu g n m:=by
 induction n with
 |zero=>simp[Yu]
 |succ n ih=>rw[Xv,Xv,ih (λi a=>h i Qo),h n Qo]
def JO{g f' z:Nat->Int}(h:∀i,i<n->f i=f' i)(k:∀i,i<n->g i=z i):X4 f g n=X4 f' z n:=by
 induction n with
 |zero=>simp[X4]
 |succ n ih=>rw[Vq,Vq,ih (λi a=>h i Qo) (λi a=>k i Qo),h n Qo,k n Qo]
variable {U:Tb}
def Dl.body{T:Tb}(h:Dl T U)(z:T.nnx=T.nck):VW T=VW U:=by
 unfold VW;rw[<-h.r,<-h.n1,<-h.n2,<-h.n3,<-h.n4,<-h.n5,Pr h.f1,QO _ h.f3,Rk h.f1,Rk h.f2,JI h.f3,Rk h.f4,JO h.f5 (λi a=>h.f6 i Qo)]
def Dl.file{T:Tb}(h:Dl T U)(z:T.nnx=T.nck):XR T=XR U:=by unfold XR;rw[h.body z]
def Dl.snd{T:Tb}(h:Dl T U)(z:PX T):PX U:=by
 have hd:=z.hd;have e3:=z.e3;have e4:=z.e4;have e6:=z.e6;unfold Hd at hd;rw[h.r,Pr h.f1,h.n1,h.n2]at hd;refine⟨⟨hd.1,hd.2.1,hd.2.2.1,λi a=>?_⟩,?_,?_,?_,?_,λi a=>?_,λi a=>?_,λk c=>?_,?_⟩
 .rw[<-h.f2 i (by rw[h.n2];exact a)];exact hd.2.2.2 i a
 .rw[<-h.n3,<-h.n2];exact z.e3
 .rw[<-h.n4,<-h.n2];exact z.e4
 .rw[<-h.n6,<-h.n5];exact z.e6
 .rw[<-h.n5];exact z.e5
 .rw[<-h.n2]at a;rw[<-h.f3 i Qo,<-h.n5];exact z.b3 i a
 .rw[<-h.n2]at a;rw[<-h.f4 i Qo];exact z.b4 i a
 .rw[<-h.n5]at c;have b:=z.cs k c;unfold Vf at b ⊢;rw[<-h.f5 k c,<-h.f6 k Qo,<-h.n2,<-h.n1];rcases b with b|⟨c1,c2,c3,c4⟩
  .exact Or.inl b
  refine Or.inr ⟨c1,c2,?_,?_⟩
  .rw[<-h.f3 _ Qo];exact c3
  rw[<-h.f3 _ Qo,<-Pr h.f1];exact c4
 rcases z.la with h0|h0
 .exact Or.inl (by rw[<-h.n5];exact h0)
 by_cases hz:T.nck=0
 .exact Or.inl (by rw[<-h.n5];exact hz)
 apply Or.inr;rw[<-h.n5,<-h.f5 _ Qo];exact h0
def Qj(P X S:List UInt8)(i:Nat)(h:i<X.length):UT (P++X++S) (P.length+i)=UT X i:=by
 rw[Zs,VM,Vs _ _ _ h]
def U4(l:List UInt8)(i:Nat):X9 ⟨l.toArray⟩ i 1=UT l i:=by simp[X9,E9]
def Fh(l:List UInt8)(i:Nat):X9 ⟨l.toArray⟩ i 2=UT l i*256+UT l (i+1):=by simp[X9,E9]
def MT(T:Tb):List UInt8:=[77,85,78,49,YV T.rules,YV ((Vc T.cl T.ncl:Int)-1),YV T.nlb,YV ((T.nck:Int)/256),YV T.nck,YV (YE T.bs T.nbs)]
def E0(T:Tb):VW T=MT T++XA T.cl T.ncl 0++XA T.lb T.nlb 1++Yu T.bs T.nbs (YE T.bs T.nbs)++XA T.df T.ndf 1++X4 T.ck T.nx T.nck:=by
 simp[VW,MT]
def zY(T:Tb):(MT T).length=10:=rfl
def yF(T:Tb)(i:Nat)(x:Int)(h:(MT T)[i]?=some (YV x)):UT (MT T) i=x%256:=by
 unfold UT;rw[Zf,h];exact XY x
def DC{w:Int}(h:w=1\/w=2):(Yu f n w).length=n*w.toNat:=by
 rcases h with rfl|rfl
 .rw[Up];simp
 rw[Vp];simp;omega
def Fv:∀n,YE f n=1->∀i,i<n->f i<=255
 |0,_,i,hi=>Qo
 |n+1,h,i,hi=>by
  rw[YE]at h;by_cases e:255<f n
  .rw[dF e]at h;omega
  rw[dG e]at h;by_cases a:i=n
  .subst a;omega
  exact Fv n h i Qo
structure xC (T:Tb) (wd:Nat) (L:List UInt8):Prop where
 len:L.length=266+T.nlb*(wd+2)+T.nck*2+4
 b4:UT L 4=T.rules
 b6:UT L 6=T.nlb
 b7:UT L 7*256+UT L 8=T.nck
 b9:UT L 9=wd
 l1:∀i,i<256->UT L (10+i)=T.cl i
 l2:∀i,i<T.nlb->UT L (266+i)=T.lb i+1
 l3:∀i,i<T.nlb->X9 ⟨L.toArray⟩ (266+T.nlb+i*wd) wd=T.bs i
 l4:∀i,i<T.nlb->UT L (266+T.nlb+T.nlb*wd+i)=T.df i+1
 l5:∀i,i<T.nck->UT L (266+T.nlb+T.nlb*wd+T.nlb+2*i)=T.ck i+1
 l6:∀i,i<T.nck->UT L (266+T.nlb+T.nlb*wd+T.nlb+2*i+1)=T.nx i+1
def DU(T:Tb)(Y:PX T)(J:Nat)(Z:YE T.bs T.nbs=(J:Int)):xC T J (XR T):=by
 have c:=Y.cl;have hd:=Y.hd;have e3:=Y.e3;have e4:=Y.e4;have e6:=Y.e6;have e5:=Y.e5;have o:J=1\/J=2:=by
  rcases Va T.bs T.nbs with h|h<;>(rw[Z]at h;omega)
 let⟨⟨B,C⟩,⟨z,A⟩,_,n⟩:=hd;have e:(XA T.cl T.ncl 0).length=256:=by rw[WQ,c.1]
 have g:(XA T.lb T.nlb 1).length=T.nlb:=WQ _ _ _;have LB:(Yu T.bs T.nbs (YE T.bs T.nbs)).length=T.nlb*J:=by
  rw[Z,DC Qo,e3];simp
 have p:(XA T.df T.ndf 1).length=T.nlb:=by rw[WQ,e4]
 have v:(X4 T.ck T.nx T.nck).length=2*T.nck:=Wv _ _ _;have d:=zY T;have b:XR T=MT T++XA T.cl T.ncl 0++XA T.lb T.nlb 1++Yu T.bs T.nbs (YE T.bs T.nbs)++XA T.df T.ndf 1++X4 T.ck T.nx T.nck++Uc (VW T):=by rw[XR,E0 T]
 generalize Uc (VW T)=S at b;have l:(XR T).length=(VW T).length+4:=by rw[XR,Zl];rfl
 have k:(VW T).length=266+T.nlb*(J+2)+T.nck*2:=by
  rw[E0];simp only[Zl,d,e,g,LB,p,v];rw[Nat.mul_add];omega
 have H:∀i x,(MT T)[i]?=some (YV x)->UT (XR T) i=x%256:=λi x u=>by
  have a:=(Zi.1 u).1;rw[b];simp only[Zs];rw[Vs _ _ _ a];exact yF T i x u
 have S1:∀i,i<256->UT (XR T) (10+i)=UT (XA T.cl T.ncl 0) i:=λi a=>by
  rw[b];simp only[Zs];rw[<-d,<-Zs,Qj _ _ _ _ Qo]
 have S2:∀i,i<T.nlb->UT (XR T) (266+i)=UT (XA T.lb T.nlb 1) i:=λi a=>by
  rw[b];have:=Qj (MT T++XA T.cl T.ncl 0) (XA T.lb T.nlb 1) (Yu T.bs T.nbs (YE T.bs T.nbs)++XA T.df T.ndf 1++X4 T.ck T.nx T.nck++S) i Qo;rw[Zl,d,e]at this;simpa only[Zs]using this
 have j:∀i,i<T.nlb*J->UT (XR T) (266+T.nlb+i)=UT (Yu T.bs T.nbs (YE T.bs T.nbs)) i:=λi a=>by
  rw[b];have:=Qj (MT T++XA T.cl T.ncl 0++XA T.lb T.nlb 1) (Yu T.bs T.nbs (YE T.bs T.nbs)) (XA T.df T.ndf 1++X4 T.ck T.nx T.nck++S) i Qo;rw[Zl,Zl,d,e,g]at this;simpa only[Zs]using this
 have w:∀i,i<T.nlb->UT (XR T) (266+T.nlb+T.nlb*J+i)=UT (XA T.df T.ndf 1) i:=λi a=>by
  rw[b];have:=Qj (MT T++XA T.cl T.ncl 0++XA T.lb T.nlb 1++Yu T.bs T.nbs (YE T.bs T.nbs)) (XA T.df T.ndf 1) (X4 T.ck T.nx T.nck++S) i Qo;rw[Zl,Zl,Zl,d,e,g,LB]at this;simpa only[Zs]using this
 have q:∀i,i<2*T.nck->UT (XR T) (266+T.nlb+T.nlb*J+T.nlb+i)=UT (X4 T.ck T.nx T.nck) i:=λi a=>by
  rw[b];have:=Qj (MT T++XA T.cl T.ncl 0++XA T.lb T.nlb 1++Yu T.bs T.nbs (YE T.bs T.nbs)++XA T.df T.ndf 1) (X4 T.ck T.nx T.nck) S i Qo;rw[Zl,Zl,Zl,Zl,d,e,g,LB,p]at this;simpa only[Zs]using this
 refine⟨by rw[l,k],?_,?_,?_,?_,λi a=>?_,λi a=>?_,λi a=>?_,λi a=>?_,λi a=>?_,λi a=>?_⟩
 .rw[H 4 T.rules rfl];omega
 .rw[H 6 T.nlb rfl];omega
 .rw[H 7 ((T.nck:Int)/256) rfl,H 8 T.nck rfl];omega
 .rw[H 9 (YE T.bs T.nbs) rfl,Z];omega
 .rw[S1 i a,Qi _ _ _ _ (by rw[c.1];exact a)];have:=c.2 i a;omega
 .rw[S2 i a,Qi _ _ _ _ a];have:=n i a;omega
 .have y:=Y.b3 i a;rcases o with rfl|rfl
  .rw[U4,ff,j i Qo,Z];have:=MH T.bs T.nbs i Qo;have t:=Fv T.nbs Z i Qo;rw[show((1:Nat):Int)=1 from rfl,this];omega
  have r:=j (2*i) Qo;have s:=j (2*i+1) Qo;have f:=MJ T.bs T.nbs i Qo;rw[Z,show((2:Nat):Int)=2 from rfl]at r s;rw[Fh,show 266+T.nlb+i*2=266+T.nlb+2*i by omega,r,show 266+T.nlb+2*i+1=266+T.nlb+(2*i+1) by omega,s,f.1,f.2];omega
 .rw[w i a,Qi _ _ _ _ Qo];have:=Y.b4 i a;omega
 .have m:=Y.cs i a;rw[q (2*i) Qo,(Ri T.ck T.nx T.nck i a).1];unfold Vf at m;omega
 have m:=Y.cs i a;rw[show 266+T.nlb+T.nlb*J+T.nlb+2*i+1=266+T.nlb+T.nlb*J+T.nlb+(2*i+1) by omega,q (2*i+1) Qo,(Ri T.ck T.nx T.nck i a).2];unfold Vf at m;omega
def E5(l:List UInt8)(a b:Nat):((⟨l.toArray⟩:ByteArray).extract a b).data.toList=(l.take b).drop a:=by
 have h:((⟨l.toArray⟩:ByteArray).extract a b).data=l.toArray.extract a b:=Qs
 rw[h];simp[fP,fQ]
def EG(l:List UInt8):L1 ⟨(l++Uc l).toArray⟩=true:=by
 have b:(Uc l).length=4:=rfl;have a:(⟨(l++Uc l).toArray⟩:ByteArray).size=l.length+4:=by
  have:(⟨(l++Uc l).toArray⟩:ByteArray).size=(l++Uc l).length:=by simp[ByteArray.size]
  rw[this,Zl,b]
 unfold L1;rw[a,show l.length+4-4=l.length by omega,fS,fS,E5,E5];have h1:((l++Uc l).take (l.length+4)).drop l.length=Uc l:=by
  rw[fR (by rw[Zl,b];omega),eL]
 have h2:((l++Uc l).take l.length).drop 0=l:=by rw[Zw,eR]
 rw[h1,h2];simp
def round(T:Tb)(z:PX T):Mi ⟨(XR T).toArray⟩/\Dl T (XM ⟨(XR T).toArray⟩):=by
 obtain⟨c,k⟩:∃c:Nat,YE T.bs T.nbs=(c:Int):=by
  rcases Va T.bs T.nbs with h|h
  .exact⟨1,h⟩
  exact⟨2,h⟩
 have R:=DU T z c k;have n:c=1\/c=2:=by
  rcases Va T.bs T.nbs with h|h<;>(rw[k]at h;omega)
 have e:=z.cl;have hd:=z.hd;have e3:=z.e3;have e4:=z.e4;have e6:=z.e6;have e5:=z.e5;have l:X9 ⟨(XR T).toArray⟩ 4 1=T.rules:=by rw[U4];exact R.b4
 have f:X9 ⟨(XR T).toArray⟩ 6 1=T.nlb:=by rw[U4];exact R.b6
 have g:X9 ⟨(XR T).toArray⟩ 7 2=T.nck:=by rw[Fh];exact R.b7
 have j:X9 ⟨(XR T).toArray⟩ 9 1=c:=by rw[U4];exact R.b9
 have m:XM ⟨(XR T).toArray⟩=Fm ⟨(XR T).toArray⟩ T.nlb T.nck c:=by
  unfold XM;rw[f,g,j];simp
 have d:Dl T (XM ⟨(XR T).toArray⟩):=by
  rw[m];refine⟨l.symm,e.1,rfl,e3,e4,rfl,e6,λi a=>?_,λi a=>?_,λi a=>?_,λi a=>?_,λi a=>?_,λi a=>?_⟩
  .simp only[Fm,lst];rw[U4,ff,R.l1 i Qo];omega
  .simp only[Fm,lst];rw[U4,ff,R.l2 i a];omega
  .simp only[Fm,lst];rw[R.l3 i Qo];omega
  .simp only[Fm,lst];rw[U4,ff,R.l4 i Qo];omega
  .simp only[Fm];rw[U4,R.l5 i a];omega
  simp only[Fm];rw[U4,R.l6 i Qo];omega
 have b:(⟨(XR T).toArray⟩:ByteArray).size=(XR T).length:=by simp[ByteArray.size]
 refine⟨⟨?_,⟨?_,?_,?_⟩,?_,?_,?_⟩,d⟩
 .unfold V7;rw[decide_eq_true (by rw[b,R.len];omega)];have:((⟨(XR T).toArray⟩:ByteArray).extract 0 4).toList=[77,85,78,49]:=by
   rw[fS];simp[ByteArray.extract,ByteArray.copySlice];unfold XR VW;simp
  rw[this];rfl
 .rw[b,R.len];omega
 .rw[l,f,g,j];refine⟨hd.1,?_,Qo,Qo⟩;have:=hd.2.1;omega
 .rw[b,R.len,f,g,j];simp
 .exact EG (VW T)
 .exact d.snd z
 rw[<-d.file e6]
def Fu(T:Tb)(x:ByteArray):∀u i,(GV T x u i).length<=u
 |0,_=>by simp[GV]
 |u+1,i=>by
  rw[GV];split
  .simp;exact Fu T x u _
  simp
def Dc(T:Tb)(x:ByteArray):(SQ T x).length<=2000:=by
 unfold SQ;split
 .simp
 have:=Fu T x x.size 0;omega
def K0:∀(l:List (Int × Int × Int)) (k:Nat) (t:Int × Int × Int),l[k]?=some t->∀j v,(Jo t)[j]?=some v->(V5 l)[k*3+j]?=some v
 |[],k,t,h,_,_,_=>by simp at h
 |a::l,0,t,h,j,v,hv=>by
  cases (show some a=some t from h);have c:=(Zi.1 hv).1;rw[show V5 (a::l)=Jo a++V5 l from by simp[V5],fJ,Zn,Zv c];exact hv
 |a::l,k+1,t,h,j,v,hv=>by
  have b:l[k]?=some t:=by simpa using h
  rw[show V5 (a::l)=Jo a++V5 l from by simp[V5],ZG (by simp[Jo];omega)];have e:(k+1)*3+j-(Jo a).length=k*3+j:=by simp[Jo];omega
  rw[e];exact K0 l k t b j v hv
def KL(ad:Option Addr)(l:List (Int × Int × Int))(w:World):Prop:=
 ∀k t,l[k]?=some t->∃g,ad=some ⟨g,0,none⟩/\w.cell? ⟨g,k*3,none⟩=some (.int .i64 t.1)/\w.cell? ⟨g,k*3+1,none⟩=some (.int .i64 t.2.1)/\w.cell? ⟨g,k*3+2,none⟩=some (.int .i64 t.2.2)
def VG.kl{l:List (Int × Int × Int)}(h:VG base v l w):∃ad cap,v=.slice ad l.length cap/\KL ad l w:=by
 rcases h.2 with ⟨rfl,h0⟩|⟨g,cap,a,rfl,h1,h2,h3,i,m,e⟩
 .have:l=[]:=dA h0;subst this;exact⟨none,0,rfl,λk t b=>by simp at b⟩
 refine⟨some (a_ g 0),cap,rfl,λk t b=>⟨g,rfl,?_⟩⟩;have c:∀j v,(Jo t)[j]?=some v->w.cell? (a_ g (k*3+j))=some v:=λj v f=>by
  have d:=K0 l k t b j v f;rw[cell_of_row w g (k*3+j) a _ (0,0) h2,<-d,<-e];have:k*3+j<l.length*3:=by
   have:=(Zi.1 d).1;rw[DX]at this;exact this
  simp[this]
 exact⟨by have:=c 0 _ rfl;simpa using this,c 1 _ rfl,c 2 _ rfl⟩
def KL.below{l:List (Int × Int × Int)}(h:KL ad l w)(z:Bl w w'):KL ad l w':=λk t c=>by
 let⟨g,e,c0,c1,c2⟩:=h k t c;have b:=z.block g (Ze w _ c0);refine⟨g,e,?_,?_,?_⟩
 .rw[eZ (w:=w) (a:=(a_ g (k*3))) b];exact c0
 .rw[eZ (w:=w) (a:=(a_ g (k*3+1))) b];exact c1
 rw[eZ (w:=w) (a:=(a_ g (k*3+2))) b];exact c2
def Nz(H J:Nat)(v1 v2:Value)(l:List (Int × Int × Int))(w:World)(Y:l.length<=100000)(h1:VG H v1 l w)(h2:VG J v2 l w):
  Cp 17 #[v1,v2] w λe w'=>e=.returned (.bool true)/\Bl w w':=by
 obtain⟨A,c1,rfl,k1⟩:=h1.kl;obtain⟨B,c2,rfl,o⟩:=h2.kl;have g:=hyd k1;have h:=hyd o;let⟨n,a⟩:=nam l.length;rw[<-a]at Y ⊢;have j:=hyd a;go_enter func17,ntmps17;go_wp2
 go_loopw [5] (λi w'=>∃k:Nat,k<=n/\i=I6 k/\Bl w w') (λi _=>n-(intOf i).toNat)
 .exact⟨0,Qo,rfl,Zk _ _⟩
 obtain⟨k,C,rfl,b⟩:=hrel;by_cases c:k<n
 .have d:(k:Int)<n:=Qo
  have D:(0:Int)<=k:=Qo
  obtain⟨t,f⟩:∃t,l[k]?=some t:=⟨l[k]'(by rw[<-j.o];exact c),Zd _⟩;obtain⟨g1,rfl,p,q,r⟩:=g.o.below b k t f;obtain⟨g2,rfl,s,u,v⟩:=h.o.below b k t f;let⟨x,y,z⟩:=t;simp only at p q r s u v;go_wp2
  go_quiet (fail)
  go_wp2;go_roundw
  .exact⟨k+1,Qo,Qg,b.trans (VI _ _ _)⟩
  simp[intOf];omega
 have m:¬(k:Int)<n:=Qo
 go_wp2;go_ret;exact⟨rfl,b⟩
end
