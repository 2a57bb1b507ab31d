import Derived.StillTailTactics
import Derived.Test.YtoaaklhpmhjhkaaGreatC30
set_option maxRecDepth 100000
set_option maxHeartbeats 4000000
set_option linter.all false
namespace Go.Proofs.YtoaaklhpmhjhkaaGreat
open Go.RowKit
open Bm
theorem KP (M:Mc) (A:Ux) (w:World) (hs:La M) (hI:QH M A w):Cp 62 #[.agg (A.cells M)] w (Ld M w):=by
 have hz:=UO;obtain⟨W0,ai⟩:=nam (w.alloc (.cells (A.cells M) 25));obtain⟨W1,U⟩:=nam (W0.alloc (.cells #[I6 0,sN,sN,sN,sN,sN,sN] 83));have x0:Bl w W0:=by rw[ai];exact Yg _ _
 have x1:Bl W0 W1:=by rw[U];exact Yg _ _
 have z0:W0.heap.size=w.heap.size+1:=by rw[ai];simp
 have z1:W1.heap.size=w.heap.size+2:=by rw[U];simp[z0]
 have be:W1.there W0.heap.size 0 7:=by rw[U];exact VL W0 _
 have x2:=x0.trans (x1.mono x0.size);have cG:WD w.heap.size M A W1:=by
  have h:WD w.heap.size M A W0:=by rw[ai];exact WD.boxed M A w _
  exact h.below x1
 have HE:Hid (Cp 118 #[.agg (A.cells M)] W1 (YD (WO M) W1)):=M3 M A _ hs (hI.below x2);obtain⟨d0,d1,d2,d3⟩:=cG;have bz:Hid (WD w.heap.size M A W1):=⟨d0,d1,d2,d3⟩;rw[z0]at be;rw[ai]at U;rw[U]at d0 d1 d2 d3;have HX:Hid (Bl w W1):=x2;have bN:Hid (W1.heap.size=w.heap.size+2):=z1;have HI:Hid (QH M A w):=hI;have aY:Hid (La M):=hs;unfold Ux.cells at U HE d0 d1 d2 d3 ⊢;clear x0 x1 z0 ai hI hs x2 z1;go_enter Tryz.func62,Tryz.ntmps62;go_wp2_with fail;rw[<-U];clear U d0 d1 d2 d3;refine HE.out.mono ?_;rintro e w2 ⟨p,rfl,hp,L⟩;have Hp:Hid (p=true<->WO M):=hp;have aF:=XS be (by omega) L;have ar:Hid (Bl w w2):=HX.out.trans (L.mono HX.out.size);have m2:=bz.out.below L;have cy:Hid (w.heap.size+2<=w2.heap.size):=by
  have:=bN.out;have:=L.size;show w.heap.size+2<=w2.heap.size;omega
 clear hp be L HE bz bN HX;cases p
 ·obtain⟨W9,am,ap,aq⟩:=DY (M:=M) (Nat.le_succ _) aF ar.out (λh=>by have:=Hp.out.2 h;cases this);have aV:=hyd aq;have aW:=hyd am;have aR:=hyd ap;clear aq am ap;go_wp2_with (first|(refine Za rfl 83 _ _ rfl (w.heap.size+1) 0 Xi rfl rfl aF Yd (by simp[Xi,Value.oneCell']) ?_;rw[<-aW.out]));refine Zr (v:=.tuple #[.agg Xi,I6 10]) (Wj Tryz.results62 rfl aR.out rfl) rfl aV.out
 have N:=hyd (Hp.out.1 rfl);clear Hp;have bD:=hyd m2;clear m2;go_wp2_with fail;rename_i K hK;have aJ:∀(tb g1 g2 base:Nat) (W:World),PR w M A w.heap.size (w.heap.size+1) tb g1 g2 base (λ_=>[]) (λ_=>sN) W->K ⟨#[.agg #[I6 M.rules,.slice A.a1 M.ncl A.c1,.slice A.a2 M.nlb A.c2,.slice A.a3 M.nnx A.c3],.pointer (some (a_ w.heap.size 0)),.pointer (some (a_ (w.heap.size+1) 0)),I6 0,.bool true,pT tb,undef,undef,undef,undef,undef,undef,undef,undef,undef,.agg #[I6 M.rules,.slice A.a1 M.ncl A.c1,.slice A.a2 M.nlb A.c2,.slice A.a3 M.nnx A.c3],.bool true,.bool true,.bool false,undef,.pointer (some (a_ w.heap.size 0)),I6 M.rules,.pointer (some (a_ w.heap.size 1)),.slice A.a1 M.ncl A.c1,sL g1 M.ncl M.ncl,.pointer (some (a_ w.heap.size 2)),.slice A.a2 M.nlb A.c2,sL g2 M.nlb M.nlb,.agg #[I6 M.rules,sL g1 M.ncl M.ncl,sL g2 M.nlb M.nlb,sN,sN,sN,sN],undef,undef,undef,undef,undef,undef,undef,undef,undef,undef,undef,undef,undef,undef,undef,undef,undef,undef,undef,undef,undef,undef,undef,undef,undef,undef,undef,undef,undef,undef,undef,undef,undef,undef,undef,undef,undef,undef,undef,undef,undef,undef,undef,undef,undef,undef,undef,undef,undef,undef,undef,undef,undef,undef,undef,undef,undef,undef,undef,undef,undef,undef,undef,undef,undef,undef,undef,undef,undef,undef,undef,undef,undef,undef,undef,undef,undef,undef,undef,undef,undef,undef,undef,undef,undef,undef,undef,undef,undef,undef,undef,undef,undef,undef,undef,undef,undef,undef,undef,undef],[]⟩ W:=by
  intro tb g1 g2 base W S0;refine hK _ _ ?_;rw[<-Cy]at S0;have cP:=N.out.hd.2.1;have hk:=N.out.k1;have ds:M.nnx<=24576:=by rw[N.out.e];exact Nat.mul_le_mul cP.2 hk.2
  have bQ:QH M A W:=HI.out.below S0.bel;have bB:Hid (Cp 120 #[.slice A.a1 M.ncl A.c1] W λe w'=>e=.returned (I6 M.k)/\w'=W):=WZ _ _ _ _ _ (by have:=aY.out.s1;unfold maxLen;omega) bQ.l1;have m1:=S0.m.c1;have bI:Hid (PR w M A w.heap.size (w.heap.size+1) tb g1 g2 base (L4 [] [] [] []) (λ_=>sN) W):=S0;clear S0 bQ hK;go_wp2_with fail;refine bB.out.mono ?_;rintro e W ⟨rfl,rfl⟩;clear m1 bB;go_wp2_with fail
  go_loopw [7] (λx w'=>∃(s:Nat) (V:Nat->Value),s<=M.nlb/\x=I6 s/\PR w M A w.heap.size (w.heap.size+1) tb g1 g2 base (L4 (Pk.run M.nx M.k s).bs (Pk.run M.nx M.k s).df (Pk.run M.nx M.k s).ck (Pk.run M.nx M.k s).nt) V w') (λx _=>M.nlb-(intOf x).toNat)
  ·exact⟨0,_,by omega,rfl,bI.out⟩
  clear bI;obtain⟨s,V,hs,rfl,S⟩:=hrel;have I:=Pk.inv M.nx M.k s;have ab:=hyd S;obtain⟨m0,m1,m2,m3⟩:=S.m;by_cases b5:s<M.nlb
  ·have c8:(s:Int)<(M.nlb:Int):=by omega
   have cX:(Pk.run M.nx M.k s).ck.length<=24576:=ZJ I.l2 (ZJ (Nat.mul_le_mul (show s<=96 by omega) hk.2) (by omega));have dp:(Pk.run M.nx M.k s).df.length<=96:=by rw[I.l4];omega
   have dl:(Pk.run M.nx M.k s).bs.length<=96:=by rw[I.l3];omega
   have cx:=hyd I.l1;have au:Hid (∀(d:Int) (w':World),(d=-1\/∃m:Nat,d=m/\m<s)->Bl wr w'->Cp 121 #[.agg (A.cells M),I6 M.k,I6 s,I6 d] w' λe w''=>∃v,e=.returned v/\OwnL w'.heap.size v (Xm (Pk.dif M.nx M.k s d M.k)) w''/\Bl w' w''):=λd w' hd h'=>M1 M A s d w' N.out ((HI.out.below ab.out.bel).below h') b5 (by
    rcases hd with h|⟨m,h1,h2⟩
    ·exact Or.inl h
    exact Or.inr ⟨m,h1,by omega⟩)
   unfold Ux.cells at au;clear I S;go_wp2_with fail;clear m0 m1 m2 m3;refine(au.out (-1) _ (Or.inl rfl) (Zk _ _)).mono ?_;rintro e w3 ⟨v3,rfl,aE,ac⟩;have aK:=aE;clear aE;go_wp2_with fail;obtain⟨Ws,cL⟩:=nam wr;subst cL
   go_loopw [8,9,10] (λx v y w'=>∃d:Nat,d<=s/\y=I6 d/\x=I6 (Pk.near M.nx M.k s d).1/\OwnL Ws.heap.size v (Xm (Pk.near M.nx M.k s d).2) w'/\Bl Ws w') (λ_ _ y _=>s-(intOf y).toNat)
   ·exact⟨0,by omega,rfl,rfl,aK,ac⟩
   clear aK ac;obtain⟨d,hd,rfl,rfl,hO,hB⟩:=hrel;obtain⟨a7,c7,cc,_⟩:=hO.il;rw[Xy]at cc;subst cc;by_cases bU:d<s
   ·have aL:(d:Int)<s:=by omega
    obtain⟨m0,m1,m2,m3⟩:=(ab.out.below hB).m;go_wp2_with fail;clear m0 m1 m2 m3;refine(au.out d _ (Or.inr ⟨d,rfl,bU⟩) hB).mono ?_;rintro e w4 ⟨v2,rfl,bR,L⟩;have aE:=hO.below L;have ac:=hB.trans (L.mono hB.size);have bS:=bR.mono hB.size;obtain⟨a9,c9,cd,_⟩:=bS.il;rw[Xy]at cd;subst cd;have b1:=Pk.dif_len M.nx M.k s d M.k;have b2:(Pk.near M.nx M.k s d).2.length<=M.k:=by rw[Pk.near_own];exact Pk.dif_len _ _ _ _ _
    clear hO hB bR L;by_cases hl:(Pk.dif M.nx M.k s d M.k).length<(Pk.near M.nx M.k s d).2.length
    ·have E1:=hyd (Pk.near_lt hl);have cM:((Pk.dif M.nx M.k s d M.k).length:Int)<((Pk.near M.nx M.k s d).2.length:Int):=by omega
     clear hl;go_wp2_with fail;go_roundw
     ·exact⟨d+1,by omega,by go_num,by rw[E1.out],by rw[E1.out];exact bS,ac⟩
     simp[intOf];omega
    have E1:=hyd (Pk.near_ge hl);have cM:¬((Pk.dif M.nx M.k s d M.k).length:Int)<((Pk.near M.nx M.k s d).2.length:Int):=by omega
    clear hl;go_wp2_with fail;go_roundw
    ·exact⟨d+1,by omega,by go_num,by rw[E1.out],by rw[E1.out];exact aE,ac⟩
    simp[intOf];omega
   have⟨aL,hde⟩:¬(d:Int)<s/\d=s:=by omega
   subst hde;clear bU aL hd au;have S4:=ab.out.below hB;have O4:Jz Ws.heap.size (.slice a7 (Pk.near M.nx M.k d d).2.length c7) (Xm (Pk.near M.nx M.k d d).2) V wr:=⟨hO,λk k1 k2 q h1 h2=>by have:=(hO.blk q h1).1;have:=((ab.out.o k k1 k2).blk q h2).2;omega⟩;have dk:=ab.out.bw;have b6:(Pk.near M.nx M.k d d).2.length<=256:=by
    rw[Pk.near_own];exact ZJ (Pk.dif_len _ _ _ _ _) hk.2
   have aw:Hid (∀c∈(Pk.near M.nx M.k d d).2,c<M.k):=λc hc=>Pk.own_lt hc
   have ax:Hid (Pk.run M.nx M.k (d+1)=Pk.step M.nx M.k (Pk.run M.nx M.k d) d):=rfl;unfold Pk.step Pk.own Pk.df at ax;clear ab hO hB;generalize Pk.run M.nx M.k d=R at *;generalize Pk.near M.nx M.k d d=nr at *;obtain⟨F,own⟩:=nr;simp only at O4 b6 aw ax ⊢;obtain⟨Wd,cK⟩:∃Wd,Wd=wr:=⟨_,rfl⟩;subst cK;have dn:¬(d:Int)<d:=by omega
   have o5:OwnL base (V 5) R.ck Wd:=S4.o 5 (by omega) (by omega);obtain⟨a5,c5,h5,_⟩:=o5.il;have bC:Hid (∀b:Nat,b<=100000->Cp 122 #[.slice a5 R.ck.length c5,I6 b,.slice a7 own.length c7] Wd λe w'=>e=.returned (.bool (Pk.fr R.ck b own))/\w'=Wd):=λb hb=>by
    have h:=KO base Ws.heap.size b (V 5) (.slice a7 own.length c7) R.ck own Wd o5 O4.o hb (by omega) b6 (λc hc=>by have:=aw.out c hc;omega);rw[h5]at h;exact h
   have q5:=(S4.t 5 _ rfl).1;rw[h5]at q5;have bJ:=hyd S4;have bE:=hyd O4;clear S4 O4 o5 h5;go_wp2_with fail
   go_loopw [12] (λx w'=>∃b:Nat,x=I6 b/\b<=R.ck.length/\Hid (∀i,i<b->Pk.fr R.ck i own=false)/\w'=Wd) (λx _=>R.ck.length+1-(intOf x).toNat)
   ·exact⟨0,rfl,by omega,λi hi=>by omega,rfl⟩
   obtain⟨b,rfl,hb,HK,rfl⟩:=hrel;go_wp2_with fail;refine(bC.out b (by omega)).mono ?_;rintro e w5 ⟨rfl,rfl⟩;by_cases hf:Pk.fr R.ck b own=true
   case neg=>
    have an:Pk.fr R.ck b own=false:=by simpa using hf
    have cW:b<R.ck.length:=by
     rcases ZD b R.ck.length with h|h
     ·exact h
     have e:b=R.ck.length:=by omega
     rw[e,Pk.fr_len]at an;cases an
    have cj:Hid (∀i,i<b+1->Pk.fr R.ck i own=false):=λi hi=>by
     by_cases e:i=b
     ·subst e;exact an
     exact HK.out i (by omega)
    rw[an];clear hf an HK;go_wp2_with fail;go_roundw
    ·exact⟨b+1,by go_num,by omega,cj,by first|rfl|trivial⟩
    simp[intOf];omega
   have HB:=hyd (Pk.bas_eq hf HK.out);rw[hf];have cz:Hid (Pk.run M.nx M.k (d+1)=⟨(Pk.lay M.nx M.k d b own (R.ck,R.nt)).1,(Pk.lay M.nx M.k d b own (R.ck,R.nt)).2,R.bs++[(b:Int)],R.df++[F]⟩):=by show _=_;rw[ax.out,HB.out]
   have bL:Hid (∀i,(Pk.lay M.nx M.k d b (own.take i) (R.ck,R.nt)).1.length=(Pk.lay M.nx M.k d b (own.take i) (R.ck,R.nt)).2.length/\(Pk.lay M.nx M.k d b (own.take i) (R.ck,R.nt)).1.length<=24576+256):=λi=>by
    have h:=Pk.lay_len M.nx M.k d b (own.take i) (R.ck,R.nt) cx.out (λc hc=>aw.out c (List.mem_of_mem_take hc));refine⟨h.1,?_⟩;have:=h.2.2;simp only at this;omega
   clear hf HK HB ax bC q5;go_wp2_with fail
   go_loopw [13] (λx w'=>∃(i:Nat) (V':Nat->Value),i<=own.length/\x=I6 i/\PR w M A w.heap.size (w.heap.size+1) tb g1 g2 base (L4 R.bs R.df (Pk.lay M.nx M.k d b (own.take i) (R.ck,R.nt)).1 (Pk.lay M.nx M.k d b (own.take i) (R.ck,R.nt)).2) V' w'/\Jz Ws.heap.size (.slice a7 own.length c7) (Xm own) V' w') (λx _=>own.length-(intOf x).toNat)
   ·exact⟨0,V,by omega,rfl,by rw[List.take_zero];exact bJ.out,bE.out⟩
   clear bJ bE;obtain⟨i,V',hi,rfl,S,O⟩:=hrel;by_cases bn:i<own.length
   ·have cZ:(i:Int)<(own.length:Int):=by omega
    obtain⟨c,hc⟩:∃c,own[i]?=some c:=⟨own[i],Zd bn⟩;have dm:=aw.out c (List.mem_of_getElem? hc);have HT:=hyd (Kl M.nx M.k d b own (R.ck,R.nt) i c hc);obtain⟨ch,dw⟩:=bL.out i;generalize (Pk.lay M.nx M.k d b (own.take i) (R.ck,R.nt)).1=lck at *;generalize (Pk.lay M.nx M.k d b (own.take i) (R.ck,R.nt)).2=lnt at *;obtain⟨dd,co,ce,cf⟩:=O.o.il;obtain⟨gv,ov,bX,cv⟩:=cf i (by rw[Xy];exact bn);have b9:=(Value.slice.inj ce).1;rw[bX]at b9;subst b9;simp only[QW hc]at cv;have aX:Hid (∀H w',Jz Ws.heap.size (.slice (some (a_ gv ov)) own.length c7) (Xm own) H w'->w'.cell? (a_ gv (ov+i))=some (I6 (c:Int))):=λH w' h'=>by
     obtain⟨dc,dg,cU,cV⟩:=h'.o.il;obtain⟨dh,dy,bY,bP⟩:=cV i (by rw[Xy];exact bn);have ca:=(Value.slice.inj cU).1;rw[bY]at ca;cases ca;simp only[QW hc]at bP;exact bP
    obtain⟨k,ik⟩:∃k:Nat,(b:Int)+(c:Int)=(k:Int):=⟨b+c,by omega⟩;have cw:Hid (k=b+c):=by show _=_;omega
    have dq:k<=30000:=by omega
    have bM:=hyd ch;have bK:=hyd S;have bF:=hyd O;have b8:tb<Ws.heap.size:=by have:=S.lt.2.2.1;omega
    clear ce cf bX hc S O ch;go_wp2_with fail;clear cv
    go_loopw [] (λw'=>∃(j:Nat) (H:Nat->Value),j<=k+1-lck.length/\PR w M A w.heap.size (w.heap.size+1) tb g1 g2 base (L4 R.bs R.df (lck++List.replicate j (-1)) (lnt++List.replicate j (-1))) H w'/\Jz Ws.heap.size (.slice (some (a_ gv ov)) own.length c7) (Xm own) H w') (λw'=>k+1-Ko w' (a_ tb 5))
    ·exact⟨0,V',by omega,by simpa using bK.out,bF.out⟩
    clear bK bF;obtain⟨j,H,hj,S,O⟩:=hrel;obtain⟨l,aB⟩:=nam (lck++List.replicate j (-1));obtain⟨z,aC⟩:=nam (lnt++List.replicate j (-1));have cH:l.length=lck.length+j:=by rw[aB];simp
    have cI:z.length=lck.length+j:=by rw[aC,bM.out];simp
    rw[<-aB,<-aC]at S;have aS:=hyd aB;have aT:=hyd aC;have di:l.length<=60000:=by omega
    have dj:z.length<=60000:=by omega
    have cq:Hid (l.length<=k->j+1<=k+1-lck.length):=λh=>by omega
    have cm:Hid (¬l.length<=k->j=k+1-lck.length):=λh=>by omega
    have cu:Hid (¬l.length<=k->k<z.length):=λh=>by omega
    clear aB aC cH cI;have o5:OwnL base (H 5) l wr:=S.o 5 (by omega) (by omega);have o6:OwnL base (H 6) z wr:=S.o 6 (by omega) (by omega);obtain⟨a5,c5,h5,_⟩:=o5.il;obtain⟨a6,c6,h6,_⟩:=o6.il;have q5:=(S.t 5 _ rfl).1;have q6:=(S.t 6 _ rfl).1;rw[h5]at q5;rw[h6]at q6;have aI:=hyd (QV q5);by_cases bq:l.length<=k
    ·have b4:(l.length:Int)<=(k:Int):=by omega
     obtain⟨Y,bt,bj,Z⟩:=S.ready (-1) 5 (by omega) (by omega);rw[h5]at Y Z;have T:=Y;have aP:=hyd Z;have HX:Hid (∀g cap w5,OwnL base (sL g (l.length+1) cap) (l++[-1]) w5->(wr.alloc (.cells #[I6 (-1)] 3)).grownBy w5 (Value.slice a5 l.length c5).ownBlock->((Value.slice a5 l.length c5).ownBlock=some g\/g=(wr.alloc (.cells #[I6 (-1)] 3)).heap.size) ->
       PR w M A w.heap.size (w.heap.size+1) tb g1 g2 base (L4 R.bs R.df (l++[-1]) z) (RP H 5 (sL g (l.length+1) cap)) (w5.setCell (a_ tb 5) (sL g (l.length+1) cap))/\Jz Ws.heap.size (.slice (some (a_ gv ov)) own.length c7) (Xm own) (RP H 5 (sL g (l.length+1) cap)) (w5.setCell (a_ tb 5) (sL g (l.length+1) cap))):=λg cap w5 e1 e2 e3=>by
      rw[<-h5]at e2 e3;have h:=S.push 5 (by omega) (by omega) rfl e1 e2 e3;rw[BY]at h;exact⟨h,O.push (by omega) (by omega) rfl e2 e3 b8⟩
     have az:∀u,RP H 5 u 6=.slice a6 z.length c6:=λu=>by rw[UF _ _ (by omega)];exact h6
     have aU:Hid (∀(w5:World) (ad:Addr) (u u2:Value),PR w M A w.heap.size (w.heap.size+1) tb g1 g2 base (L4 R.bs R.df (l++[-1]) z) (RP H 5 u2) (w5.setCell ad u) ->
       (w5.setCell ad u).cell? (a_ tb 6)=some (.slice a6 z.length c6)/\OwnL base (.slice a6 z.length c6) z ((w5.setCell ad u).alloc (.cells #[I6 (-1)] 3))/\((w5.setCell ad u).alloc (.cells #[I6 (-1)] 3)).cell? (a_ w5.heap.size 0)=some (I6 (-1))/\base<=((w5.setCell ad u).alloc (.cells #[I6 (-1)] 3)).heap.size /\
       ∀E,((w5.setCell ad u).alloc (.cells #[I6 (-1)] 3)).grownBy E (Value.slice a6 z.length c6).ownBlock->E.cell? (a_ tb 6)=some (.slice a6 z.length c6)/\E.frozen? (a_ tb 6)=false):=λw5 ad u u2 h=>by
      have bu:(w5.setCell ad u).heap.size=w5.heap.size:=by simp[World.setCell]
      have q:=(h.t 6 _ rfl).1;rw[az]at q;obtain⟨r1,r2,r3,r4⟩:=h.ready (-1) 6 (by omega) (by omega);rw[az]at r1 r4;rw[bu]at r2;exact⟨q,r1,r2,r3,r4⟩
     have av:=hyd az;clear S O Z o5 o6 Y h5 h6 az q6;go_wp2_with (first
      |(at_builtin;refine wpList_append_int (by rfl) _ _ (by rfl) base (.slice a5 l.length c5) l (by rfl) T (by omega) wr.heap.size (-1) (by rfl) bt bj _ rfl ?_;intro g cap w5 bb D bm cN;obtain⟨e5,cE⟩:=aP.out w5 D;obtain⟨S5,O5⟩:=HX.out g cap w5 bb D bm;obtain⟨e6,bc,br,bi,ao⟩:=aU.out w5 _ _ _ S5;have aQ:Hid (∀E,((w5.setCell (a_ tb 5) (sL g (l.length+1) cap)).alloc (.cells #[I6 (-1)] 3)).grownBy E (Value.slice a6 z.length c6).ownBlock->E.cell? (a_ tb 6)=some (.slice a6 z.length c6)/\E.frozen? (a_ tb 6)=false):=ao;clear ao T)
      |(at_builtin;refine wpList_append_int (by rfl) _ _ (by rfl) base (.slice a6 z.length c6) z (by rfl) bc (by omega) w5.heap.size (-1) (by rfl) br bi _ rfl ?_;intro g7 n E bd a C cO;obtain⟨e7,cF⟩:=aQ.out E a))
     have S7:PR w M A w.heap.size (w.heap.size+1) tb g1 g2 base (L4 R.bs R.df (l++[-1]) (z++[-1])) (RP (RP H 5 (sL g (l.length+1) cap)) 6 (sL g7 (z.length+1) n)) (E.setCell (a_ tb 6) (sL g7 (z.length+1) n)):=by
      rw[<-av.out (sL g (l.length+1) cap)]at a C;have h:=S5.push 6 (by omega) (by omega) rfl bd a C;rw[BZ]at h;exact h
     have O7:Jz Ws.heap.size (.slice (some (a_ gv ov)) own.length c7) (Xm own) (RP (RP H 5 (sL g (l.length+1) cap)) 6 (sL g7 (z.length+1) n)) (E.setCell (a_ tb 6) (sL g7 (z.length+1) n)):=by
      rw[<-av.out (sL g (l.length+1) cap)]at a C;exact O5.push (by omega) (by omega) rfl a C b8
     have cQ:Ko (E.setCell (a_ tb 6) (sL g7 (z.length+1) n)) (a_ tb 5)=l.length+1:=by
      have q:=(S7.t 5 _ rfl).1;rw[UF _ _ (by omega),RQ]at q;exact QV q
     rw[aS.out,aT.out,Rg,Rg]at S7;rw[<-aS.out,<-aT.out]at S7;go_roundw
     ·exact⟨j+1,_,cq.out bq,S7,O7⟩
     rw[cQ,aI.out];omega
    have b4:¬(l.length:Int)<=(k:Int):=by omega
    have bp:=cm.out bq;have b0:=cu.out bq;have bG:Hid (l.set k (d:Int)=Pk.put lck k d):=by show _=_;rw[aS.out,bp];rfl
    have bH:Hid (∀x,z.set k x=Pk.put lnt k x):=λx=>by rw[aT.out,bp,bM.out];rfl
    obtain⟨g,cg,hg⟩:=o5.some_ (by omega);obtain⟨g',de,bV⟩:=o6.some_ (by omega);rw[h5]at hg;rw[h6]at bV;cases hg;cases bV;rw[h5]at o5;obtain⟨k1,du⟩:=o5.at_ k (by omega);have S1:=S.put 5 (by omega) (by omega) h5 k (d:Int);rw[BY]at S1;have O1:=O.put (q:=k) (u:=I6 (d:Int)) (k:=5) (by omega) (by omega) h5;obtain⟨W6,aG⟩:=nam ((wr.setCell (a_ g k) (I6 (d:Int))).drew);have S6:PR w M A w.heap.size (w.heap.size+1) tb g1 g2 base (L4 R.bs R.df (l.set k (d:Int)) z) H W6:=by rw[aG];exact S1.below (Zk _ _).drew
    have O6:Jz Ws.heap.size (.slice (some (a_ gv ov)) own.length c7) (Xm own) H W6:=by rw[aG];exact O1.below (Zk _ _).drew
    have r6:=(S6.t 6 _ rfl).1;rw[h6]at r6;have n3:=S6.m.c3;have oc:=aX.out H W6 O6;have ci:OwnL base (sL g' z.length c6) z W6:=by
     have:=S6.o 6 (by omega) (by omega);rw[h6]at this;exact this
    obtain⟨k2,dv⟩:=ci.at_ k b0;obtain⟨ps,aH⟩:∃ps:Nat,ps=d*M.k:=⟨_,rfl⟩;have dt:(d:Int)*(M.k:Int)=(ps:Int):=by rw[aH];simp
    have da:ps<=24576:=by rw[aH];exact Nat.mul_le_mul (show d<=96 by omega) hk.2
    obtain⟨q,hq⟩:∃q:Nat,q=ps+c:=⟨_,rfl⟩;have iq:(ps:Int)+(c:Int)=(q:Int):=by omega
    have cR:q<M.nnx:=by
     have h2:(d+1)*M.k<=M.nlb*M.k:=ZQ _ b5;rw[N.out.e];rw[Nat.succ_mul]at h2;omega
    have db:(q:Int)<(M.nnx:Int):=by omega
    obtain⟨gn,dx,bW,cn⟩:=(HI.out.below S6.bel).l3 q cR;rw[bW]at n3;have b3:Pk.ld M.nx M.k (d:Int) c=M.nx q:=by rw[Pk.ld_nat,hq,aH]
    have S8:PR w M A w.heap.size (w.heap.size+1) tb g1 g2 base (L4 R.bs R.df (l.set k (d:Int)) (z.set k (M.nx q))) H (W6.setCell (a_ g' k) (I6 (M.nx q))):=by
     have h:=S6.put 6 (by omega) (by omega) h6 k (M.nx q);rw[BZ]at h;exact h
    rw[bG.out,bH.out]at S8;have O8:=O6.put (q:=k) (u:=I6 (M.nx q)) (k:=6) (by omega) (by omega) h6;have ct:Hid (PR w M A w.heap.size (w.heap.size+1) tb g1 g2 base (L4 R.bs R.df (Pk.put lck (b+c) d) (Pk.put lnt (b+c) (Pk.ld M.nx M.k d c))) H (W6.setCell (a_ g' k) (I6 (M.nx q)))):=by
     rw[<-cw.out,b3];exact S8
    have cr:=hyd O8;have dr:(k:Int)<(l.length:Int):=by omega
    have⟨hkm,hqb⟩:(k:Int)<(z.length:Int)/\q<=30000:=by omega
    clear S O S1 O1 S6 O6 S8 O8 bG bH aI bp b3 hq aH o5 o6 ci h5 h6 bW;go_wp2_with fail;refine wp_region_still_tail 16 (by kernel_rfl) (by kernel_rfl) ?_;simp only[ZK,List.take_zero,ZL,Zw];change wpStill _ _ (wr.setCell (a_ g k) (I6 (d:Int))).drew (λa'=>wpList _ _ _ _ a' (wr.setCell (a_ g k) (I6 (d:Int))).drew) _ _;rw[<-aG];clear aG
    repeat still_step
    have bv:IntKind.i64.wrap (ps:Int)=(ps:Int):=by simp[IntKind.wrap,IntKind.bits,IntKind.signed];omega
    have bx:IntKind.i64.wrap (q:Int)=(q:Int):=by simp[IntKind.wrap,IntKind.bits,IntKind.signed];omega
    (try simp only[bv,iq,bx])
    repeat still_step
    (try simp only[bv,iq,bx])
    repeat still_step
    refine wpStill_nil ?_;clear bv bx;go_wp2_with fail;go_roundw
    ·refine⟨i+1,H,by omega,by go_num,?_,cr.out⟩;rw[HT.out];exact ct.out
    simp[intOf];omega
   have cY:¬(i:Int)<(own.length:Int):=by omega
   have bZ:own.take i=own:=List.take_of_length_le (by omega);rw[bZ]at S;clear O bZ;have o3:OwnL base (V' 3) R.bs wr:=S.o 3 (by omega) (by omega);have o4:OwnL base (V' 4) R.df wr:=S.o 4 (by omega) (by omega);obtain⟨a3,c3,h3,_⟩:=o3.il;obtain⟨a4,c4,h4,_⟩:=o4.il;have q3:=(S.t 3 _ rfl).1;rw[h3]at q3;obtain⟨Y,bt,bj,Z⟩:=S.ready (b:Int) 3 (by omega) (by omega);rw[h3]at Y Z;have T:=Y;have aP:=hyd Z;have HX:Hid (∀g cap w5,OwnL base (sL g (R.bs.length+1) cap) (R.bs++[(b:Int)]) w5->(wr.alloc (.cells #[I6 (b:Int)] 3)).grownBy w5 (Value.slice a3 R.bs.length c3).ownBlock->((Value.slice a3 R.bs.length c3).ownBlock=some g\/g=(wr.alloc (.cells #[I6 (b:Int)] 3)).heap.size) ->
     PR w M A w.heap.size (w.heap.size+1) tb g1 g2 base (L4 (R.bs++[(b:Int)]) R.df (Pk.lay M.nx M.k d b own (R.ck,R.nt)).1 (Pk.lay M.nx M.k d b own (R.ck,R.nt)).2) (RP V' 3 (sL g (R.bs.length+1) cap)) (w5.setCell (a_ tb 3) (sL g (R.bs.length+1) cap))):=λg cap w5 e1 e2 e3=>by
    rw[<-h3]at e2 e3;have h:=S.push 3 (by omega) (by omega) rfl e1 e2 e3;rw[BE]at h;exact h
   have ay:∀u,RP V' 3 u 4=.slice a4 R.df.length c4:=λu=>by rw[UF _ _ (by omega)];exact h4
   have aU:Hid (∀(w5:World) (ad:Addr) (u u2:Value),PR w M A w.heap.size (w.heap.size+1) tb g1 g2 base (L4 (R.bs++[(b:Int)]) R.df (Pk.lay M.nx M.k d b own (R.ck,R.nt)).1 (Pk.lay M.nx M.k d b own (R.ck,R.nt)).2) (RP V' 3 u2) (w5.setCell ad u) ->
     (w5.setCell ad u).cell? (a_ tb 4)=some (.slice a4 R.df.length c4)/\OwnL base (.slice a4 R.df.length c4) R.df ((w5.setCell ad u).alloc (.cells #[I6 F] 3))/\((w5.setCell ad u).alloc (.cells #[I6 F] 3)).cell? (a_ w5.heap.size 0)=some (I6 F)/\base<=((w5.setCell ad u).alloc (.cells #[I6 F] 3)).heap.size /\
     ∀E,((w5.setCell ad u).alloc (.cells #[I6 F] 3)).grownBy E (Value.slice a4 R.df.length c4).ownBlock->E.cell? (a_ tb 4)=some (.slice a4 R.df.length c4)/\E.frozen? (a_ tb 4)=false):=λw5 ad u u2 h=>by
    have bu:(w5.setCell ad u).heap.size=w5.heap.size:=by simp[World.setCell]
    have q:=(h.t 4 _ rfl).1;rw[ay]at q;obtain⟨r1,r2,r3,r4⟩:=h.ready F 4 (by omega) (by omega);rw[ay]at r1 r4;rw[bu]at r2;exact⟨q,r1,r2,r3,r4⟩
   have av:=hyd ay;clear S Z o3 o4 Y h3 h4 ay;go_wp2_with (first
    |(at_builtin;refine wpList_append_int (by rfl) _ _ (by rfl) base (.slice a3 R.bs.length c3) R.bs (by rfl) T (by omega) wr.heap.size (b:Int) (by rfl) bt bj _ rfl ?_;intro g cap w5 bb D bm cN;obtain⟨e5,cE⟩:=aP.out w5 D;have S5:=HX.out g cap w5 bb D bm;obtain⟨e6,bc,br,bi,ao⟩:=aU.out w5 _ _ _ S5;have aQ:Hid (∀E,((w5.setCell (a_ tb 3) (sL g (R.bs.length+1) cap)).alloc (.cells #[I6 F] 3)).grownBy E (Value.slice a4 R.df.length c4).ownBlock->E.cell? (a_ tb 4)=some (.slice a4 R.df.length c4)/\E.frozen? (a_ tb 4)=false):=ao;clear ao T)
    |(at_builtin;refine wpList_append_int (by rfl) _ _ (by rfl) base (.slice a4 R.df.length c4) R.df (by rfl) bc (by omega) w5.heap.size F (by rfl) br bi _ rfl ?_;intro g7 n E bd a C cO;obtain⟨e7,cF⟩:=aQ.out E a))
   have S7:PR w M A w.heap.size (w.heap.size+1) tb g1 g2 base (L4 (R.bs++[(b:Int)]) (R.df++[F]) (Pk.lay M.nx M.k d b own (R.ck,R.nt)).1 (Pk.lay M.nx M.k d b own (R.ck,R.nt)).2) (RP (RP V' 3 (sL g (R.bs.length+1) cap)) 4 (sL g7 (R.df.length+1) n)) (E.setCell (a_ tb 4) (sL g7 (R.df.length+1) n)):=by
    rw[<-av.out (sL g (R.bs.length+1) cap)]at a C;have h:=S5.push 4 (by omega) (by omega) rfl bd a C;rw[BF]at h;exact h
   go_roundw
   ·refine⟨d+1,RP (RP V' 3 (sL g (R.bs.length+1) cap)) 4 (sL g7 (R.df.length+1) n),by omega,by go_num,?_⟩;rw[cz.out];exact S7
   simp[intOf];omega
  have⟨hge,hsn⟩:¬(s:Int)<(M.nlb:Int)/\s=M.nlb:=by omega
  subst hsn;obtain⟨cS,cT,b7,W9,am,ap,aq⟩:=S.last N.out rfl rfl rfl rfl;have aV:=hyd aq;have aW:=hyd am;have aR:=hyd ap;clear aq am ap S I m0 m1 m3;go_wp2_with (first
   |(refine Zb rfl 83 _ rfl tb 0 rfl (PY M g1 g2 V) _ cS u_k rfl Yd ?_)
   |(refine Za rfl 83 _ _ rfl (w.heap.size+1) 0 (PY M g1 g2 V).toArray rfl rfl cT Yd b7 ?_;rw[Zc,<-aW.out]))
  refine Zr (v:=.tuple #[.agg (PY M g1 g2 V).toArray,I6 0]) (Wj Tryz.results62 rfl aR.out rfl) rfl aV.out
 have X:=hyd aJ;clear aJ hK;have aa:0<M.ncl:=by rw[N.out.ncl];omega
 have aM:0<M.nlb:=by have:=N.out.hd.2.1;omega
 have bA:Hid (∀w',Bl w2 w'->Cp 119 #[.slice A.a1 M.ncl A.c1] w' λe w''=>e=.returned (.slice (some (a_ w'.heap.size 0)) M.ncl M.ncl)/\XB w'.heap.size M.cl M.ncl w''/\Bl w' w''):=λw' h'=>Sd _ _ _ _ _ (by have:=aY.out.s1;omega) ((HI.out.below ar.out).below h').l1
 have aN:Hid (∀w',Bl w2 w'->Cp 119 #[.slice A.a2 M.nlb A.c2] w' λe w''=>e=.returned (.slice (some (a_ w'.heap.size 0)) M.nlb M.nlb)/\XB w'.heap.size M.lb M.nlb w''/\Bl w' w''):=λw' h'=>Sd _ _ _ _ _ (by have:=aY.out.s2;omega) ((HI.out.below ar.out).below h').l2
 have J:Hid (∀w',Bl w2 w'->w'.cell? (a_ w.heap.size 0)=some (I6 M.rules)/\w'.cell? (a_ w.heap.size 1)=some (.slice A.a1 M.ncl A.c1)/\w'.cell? (a_ w.heap.size 2)=some (.slice A.a2 M.nlb A.c2)):=λw' h'=>by
  obtain⟨q0,q1,q2,_⟩:=bD.out.below h';exact⟨q0,q1,q2⟩
 have aO:Hid (∀(tb g1 g2:Nat) (W:World),Bl w2 W->XB g1 M.cl M.ncl W->XB g2 M.lb M.nlb W->W.there tb 0 7->w2.heap.size<=tb->tb<W.heap.size->w2.heap.size<=g1->w2.heap.size<=g2->g1≠tb->g2≠tb->PR w M A w.heap.size (w.heap.size+1) tb g1 g2 W.heap.size (λ_=>[]) (λ_=>sN) (W.setCells tb 0 (PY M g1 g2 (λ_=>sN)))):=λtb g1 g2 W hB k1 k2 ht t1 t2 a1 b1 n1 n2=>by
  have hl:=cy.out;exact PR.init bD.out aF (by omega) (by omega) (by omega) (Nat.le_succ _) ar.out hB k1 k2 ht t1 t2 a1 (k1.lt aa) b1 (k2.lt aM) n1 n2
 have aA:Bl w2 w2.drew:=(Zk _ _).drew;clear aF;refine wp_region_held_drew (S:=λw'=>w'.cell? (a_ w.heap.size 0)=some (I6 M.rules)/\w'.cell? (a_ w.heap.size 1)=some (.slice A.a1 M.ncl A.c1)/\w'.cell? (a_ w.heap.size 2)=some (.slice A.a2 M.nlb A.c2)) (by kernel_rfl) (J.out _ aA) (λhHeld=>?_);refine tQ 0 ?_
 refine tQ 1 ?_
 refine tQ 2 ?_
 refine tQ 3 ?_
 refine tQ 5 ?_
 refine tQ 6 ?_
 refine wpAnyH_ready (rs:=[4,9]) (by kernel_rfl) (by simp) ?_;refine AllReadyH.cons (o:=?o4) ?hi4 (λK4 a0=>?_) (AllReadyH.cons (o:=?o9) ?hi9 (λK9 af=>?_) AllReadyH.nil)
 case hi4=>simp only[gel];rfl
 case hi9=>simp only[gel];rfl
 ·go_simp;refine Calls.mono (bA.out _ aA) ?_;rintro e w3 ⟨rfl,aD,aZ⟩;have r:=aA.trans (aZ.mono aA.size);go_wp2_with fail;refine a0.out _ _ (J.out _ r) (λhHeld=>?_)
  (try simp only[psm])
  refine wpAnyH_ready (rs:=[7,9]) (by kernel_rfl) (by simp) ?_;refine AllReadyH.cons (o:=?ox1_7) ?hix1_7 (λK7 ae=>?_) (AllReadyH.cons (o:=?ox1_9) ?hix1_9 (λK9 af=>?_) AllReadyH.nil)
  case hix1_7=>simp only[gel];rfl
  case hix1_9=>simp only[gel];rfl
  ·go_simp;refine Calls.mono (aN.out _ r) ?_;rintro e w4 ⟨rfl,ag,P⟩;have f:=r.trans (P.mono r.size);go_wp2_with fail;refine ae.out _ _ (J.out _ f) (λhHeld=>?_)
   (try simp only[psm])
   refine tQ 8 ?_
   (try simp only[psm])
   refine wpAnyH_ready (rs:=[9]) (by kernel_rfl) (by simp) ?_;refine AllReadyH.cons (o:=?ox2_9) ?hix2_9 (λK9 af=>?_) AllReadyH.nil
   case hix2_9=>simp only[gel];rfl
   go_simp;obtain⟨W5,al⟩:=nam (w4.alloc (.cells #[I6 0,sN,sN,sN,sN,sN,sN] 83));have B:Bl w4 W5:=by rw[al];exact Yg _ _
   have bT:W5.there w4.heap.size 0 7:=by rw[al];exact VL w4 _
   have cC:Hid (W5.heap.size=w4.heap.size+1):=by show _=_;rw[al];simp
   rw[<-al];have G:=f.trans (B.mono f.size);refine af.out _ _ (J.out _ G) (λhHeld=>?_);clear al
   (try simp only[psm])
   refine wpAnyH_ready (rs:=[10]) (by kernel_rfl) (by simp) ?_;refine AllReadyH.cons (o:=?ox1_10) ?hix1_10 (λbO Q=>?_) AllReadyH.nil
   case hix1_10=>simp only[gel];rfl
   have e3:=r.size;have e4:=f.size;have l3:=aD.lt aa;have l4:=ag.lt aM;have z5:=cC.out;have pr:=aO.out w4.heap.size w2.heap.size w3.heap.size W5 G ((aD.below P).below B) (ag.below B) bT (by omega) (by omega) (Zg _) (by omega) (by have:w2.heap.size<w3.heap.size:=l3;omega) (by omega);rw[if_pos (by rfl)];refine wp_store_mid 83 _ _ rfl w4.heap.size 0 #[I6 M.rules,.slice (some (a_ w2.heap.size 0)) M.ncl M.ncl,.slice (some (a_ w3.heap.size 0)) M.nlb M.nlb,sN,sN,sN,sN] rfl rfl bT Yd (by simp[Value.oneCell']) ?_;refine Q.out _ _ ⟨pr.m.c0,pr.m.c1,pr.m.c2⟩ (λhHeld=>?_);refine wpAnyH_done (by kernel_rfl) ?_ _;exact X.out w4.heap.size w2.heap.size w3.heap.size _ _ pr
  go_simp;obtain⟨W4,ak⟩:=nam (w3.alloc (.cells #[I6 0,sN,sN,sN,sN,sN,sN] 83));have P:Bl w3 W4:=by rw[ak];exact Yg _ _
  have bf:W4.there w3.heap.size 0 7:=by rw[ak];exact VL w3 _
  have cB:Hid (W4.heap.size=w3.heap.size+1):=by show _=_;rw[ak];simp
  rw[<-ak];have f:=r.trans (P.mono r.size);refine af.out _ _ (J.out _ f) (λhHeld=>?_);clear ak
  (try simp only[psm])
  refine wpAnyH_ready (rs:=[7]) (by kernel_rfl) (by simp) ?_;refine AllReadyH.cons (o:=?ox2_7) ?hix2_7 (λK7 ae=>?_) AllReadyH.nil
  case hix2_7=>simp only[gel];rfl
  go_simp;refine Calls.mono (aN.out _ f) ?_;rintro e w5 ⟨rfl,a8,B⟩;have G:=f.trans (B.mono f.size);go_wp2_with fail;refine ae.out _ _ (J.out _ G) (λhHeld=>?_)
  (try simp only[psm])
  refine tQ 8 ?_
  (try simp only[psm])
  refine wpAnyH_ready (rs:=[10]) (by kernel_rfl) (by simp) ?_;refine AllReadyH.cons (o:=?ox2_10) ?hix2_10 (λbO Q=>?_) AllReadyH.nil
  case hix2_10=>simp only[gel];rfl
  have e3:=r.size;have e4:=f.size;have e5:=G.size;have l3:w2.heap.size<w3.heap.size:=aD.lt aa;have cD:=B.size;have ah:=XS bf (by omega) B;have z4:=cB.out;have pr:=aO.out w3.heap.size w2.heap.size W4.heap.size w5 G ((aD.below P).below B) a8 ah (by omega) (by omega) (Zg _) (by omega) (by omega) (by omega);rw[if_pos (by rfl)];refine wp_store_mid 83 _ _ rfl w3.heap.size 0 #[I6 M.rules,.slice (some (a_ w2.heap.size 0)) M.ncl M.ncl,.slice (some (a_ W4.heap.size 0)) M.nlb M.nlb,sN,sN,sN,sN] rfl rfl ah Yd (by simp[Value.oneCell']) ?_;refine Q.out _ _ ⟨pr.m.c0,pr.m.c1,pr.m.c2⟩ (λhHeld=>?_);refine wpAnyH_done (by kernel_rfl) ?_ _;exact X.out w3.heap.size w2.heap.size W4.heap.size _ _ pr
 go_simp;obtain⟨W3,aj⟩:=nam ((w2.alloc (.cells #[I6 0,sN,sN,sN,sN,sN,sN] 83)).drew);have aZ:Bl w2 W3:=by rw[aj];exact(Yg _ _).trans (Zk _ _).drew
 have cJ:W3.there w2.heap.size 0 7:=by rw[aj];exact VL w2 _
 have cA:Hid (W3.heap.size=w2.heap.size+1):=by show _=_;rw[aj];simp
 rw[<-aj];have r:=aZ;refine af.out _ _ (J.out _ r) (λhHeld=>?_);clear aj
 (try simp only[psm])
 refine wpAnyH_ready (rs:=[4]) (by kernel_rfl) (by simp) ?_;refine AllReadyH.cons (o:=?ox1_4) ?hix1_4 (λK4 a0=>?_) AllReadyH.nil
 case hix1_4=>simp only[gel];rfl
 go_simp;refine Calls.mono (bA.out _ r) ?_;rintro e w4 ⟨rfl,ag,P⟩;have f:=r.trans (P.mono r.size);go_wp2_with fail;refine a0.out _ _ (J.out _ f) (λhHeld=>?_)
 (try simp only[psm])
 refine wpAnyH_ready (rs:=[7]) (by kernel_rfl) (by simp) ?_;refine AllReadyH.cons (o:=?ox3_7) ?hix3_7 (λK7 ae=>?_) AllReadyH.nil
 case hix3_7=>simp only[gel];rfl
 go_simp;refine Calls.mono (aN.out _ f) ?_;rintro e w5 ⟨rfl,a8,B⟩;have G:=f.trans (B.mono f.size);go_wp2_with fail;refine ae.out _ _ (J.out _ G) (λhHeld=>?_)
 (try simp only[psm])
 refine tQ 8 ?_
 (try simp only[psm])
 refine wpAnyH_ready (rs:=[10]) (by kernel_rfl) (by simp) ?_;refine AllReadyH.cons (o:=?ox3_10) ?hix3_10 (λbO Q=>?_) AllReadyH.nil
 case hix3_10=>simp only[gel];rfl
 have e3:=r.size;have e4:=f.size;have e5:=G.size;have z3:=cA.out;have l4:=ag.lt aa;have cD:=B.size;have bf:w4.there w2.heap.size 0 7:=XS cJ (by omega) P;have ah:=XS bf (by omega) B;have pr:=aO.out w2.heap.size W3.heap.size w4.heap.size w5 G (ag.below B) a8 ah (Zg _) (by omega) (by omega) (by omega) (by omega) (by omega);rw[if_pos (by rfl)];refine wp_store_mid 83 _ _ rfl w2.heap.size 0 #[I6 M.rules,.slice (some (a_ W3.heap.size 0)) M.ncl M.ncl,.slice (some (a_ w4.heap.size 0)) M.nlb M.nlb,sN,sN,sN,sN] rfl rfl ah Yd (by simp[Value.oneCell']) ?_;refine Q.out _ _ ⟨pr.m.c0,pr.m.c1,pr.m.c2⟩ (λhHeld=>?_);refine wpAnyH_done (by kernel_rfl) ?_ _;exact X.out w2.heap.size W3.heap.size w4.heap.size _ _ pr
end Go.Proofs.YtoaaklhpmhjhkaaGreat
