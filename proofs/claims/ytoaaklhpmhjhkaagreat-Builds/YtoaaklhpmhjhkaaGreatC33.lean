import Derived.Test.YtoaaklhpmhjhkaaGreatC32
set_option maxRecDepth 100000
set_option maxHeartbeats 4000000
set_option linter.all false
namespace Go.Proofs.YtoaaklhpmhjhkaaGreat
open Go.RowKit
open Bm
open Pg (Pt)
def macZ:List Value:=[.int .i64 0,.slice none 0 0,.slice none 0 0,.slice none 0 0]
def aftN (es:Nat->Rx) (n:Nat) (f:Nat->Bool) (b:Nat):Nat->Bool:=aftTo (netH es n) (netB es n) f b (netN es n)
def kdN (es:Nat->Rx) (n:Nat):List Nat:=kdL (netH es n) (netN es n)
def kdF (es:Nat->Rx) (n:Nat) (b:Nat):Int:=idxI (Kq (netH es n) (netN es n)) b
def MBPost (es:Nat->Rx) (n:Nat) (w:World) (en:Ending) (w':World):Prop:=
 Below w.heap.size w w' /\
 ((en=.returned (.tuple #[.agg macZ.toArray,.int .i64 8])/\∃s k l t f b,Exp (aftN es n) (netF es n) (kdN es n) s k l t/\l[s]?=some f/\(kdN es n)[k]?=some b/\200<=numR l (aftN es n f b)) \/
  ∃l t A,A=autOf l t (kdN es n).length/\Exp (aftN es n) (netF es n) (kdN es n) l.length 0 l t /\
  ((96<cnt (alB A) A.N/\en=.returned (.tuple #[.agg macZ.toArray,.int .i64 9])) \/
   (¬96<cnt (alB A) A.N/\∃vc vl vn kf,en=.returned (.tuple #[.agg #[.int .i64 n,vc,vl,vn],.int .i64 0])/\(∀b,b<256->kf b=kdF es n b) /\
   OwnL w.heap.size vc (clsL (Cl (rwOf A (alB A)) (cnt (alB A) A.N)) kf 256) w'/\OwnL w.heap.size vl (labL A (alB A) (cnt (alB A) A.N)) w'/\OwnL w.heap.size vn (nxtL (rwOf A (alB A)) (reps (Cl (rwOf A (alB A)) (cnt (alB A) A.N)) A.K) (cnt (alB A) A.N)) w' /\
   (∀k,vc.ownBlock=some k->vl.ownBlock≠some k)/\(∀k,vc.ownBlock=some k->vn.ownBlock≠some k)/\(∀k,vl.ownBlock=some k->vn.ownBlock≠some k))))
theorem q1o (w:World) (Z0 Z:List Value) (ty:TypeId) (hl:Z.length=Z0.length):Below w.heap.size w ((w.alloc (.cells Z0.toArray ty)).setCells w.heap.size 0 Z)/\((w.alloc (.cells Z0.toArray ty)).setCells w.heap.size 0 Z).rangeAt w.heap.size 0 Z/\w.heap.size+1<=((w.alloc (.cells Z0.toArray ty)).setCells w.heap.size 0 Z).heap.size/\(w.alloc (.cells Z0.toArray ty)).there w.heap.size 0 Z.length:=by
 have T:=(TC.boxed w Z0 ty).there;rw[<-hl]at T;have a:=q0e w.heap.size Z 0 (w.alloc (.cells Z0.toArray ty));have B:=box_bel w (.cells Z0.toArray ty);have hs:(w.alloc (.cells Z0.toArray ty)).heap.size=w.heap.size+1:=by simp
 refine⟨B.grown a B.size (λq b=>by cases b;omega),World.rangeAt_setCells_same _ _ 0 Z T,?_,T⟩;have:=a.size;omega
variable {kids : List Nat}{L xs : List Value}{M N P R b base gb n size tb : Nat}{Ns nd ti : Nat → Nat}{S S' S1 S2 : Nat → Prop}{v v1 v2 vk vr : Value}{W w w' w1 w2 : World}
theorem q4s {t:Nat} (hth:w.there t 0 L.length):TC t L (w.setCells t 0 L):=λk v c=>by
 have a:=World.rangeAt_setCells_same w t 0 L hth k v c;have d:=(List.getElem?_eq_some_iff.1 c).1;have b:=(hth k d).2;rw[Nat.zero_add]at a b;refine⟨a,?_⟩;rw[World.frozen?_setCells];exact b
theorem q1e (a b c d:Value) (T:TC w.heap.size macZ W) (B:Below w.heap.size w W):W.there w.heap.size 0 4/\Below w.heap.size w (W.setCells w.heap.size 0 [a,b,c,d])/\(loadVar 25 ⟨w.heap.size,0,none⟩).run Tryz.prog (W.setCells w.heap.size 0 [a,b,c,d])=.ok (.agg #[a,b,c,d]) (W.setCells w.heap.size 0 [a,b,c,d])/\W.grownBy (W.setCells w.heap.size 0 [a,b,c,d]) (some w.heap.size):=by
 have t:=T.there;have e:=q0e w.heap.size [a,b,c,d] 0 W;exact⟨t,B.grown e B.size (λq f=>by cases f;omega),run_loadVar_mid (P:=Tryz.prog) _ w.heap.size 0 25 [a,b,c,d] _ (World.rangeAt_setCells_same W w.heap.size 0 [a,b,c,d] t) Tryz.underlying25 rfl q0D,e⟩
theorem q7l (b off cap n:Nat) (f:Nat->ByteArray) (w:World) (h1:1<=n) (h8:n<=8) (hb:b<w.heap.size) (hm:∀i,i<n->(f i).size<=maxLen) (hr:SRow b off f n w) (hok:∀j,j<n->(Pg.wrong (bat (f j)) (f j).size).1=0) (hsum:¬96<sumTo (λj=>placesP (f j)) n):
  Calls Tryz.prog 34 #[.slice (some ⟨b,off,none⟩) n cap] w (MBPost (λj=>rxOf (f j)) n w):=by
 have hz:=q1i;have bq:=q3Y;have br:=q5d;have bt:=q5e;have bu:=q4h;obtain⟨W0,R⟩:∃W,W=w.alloc (.cells #[.int .i64 0,.slice none 0 0,.slice none 0 0,.slice none 0 0] 25):=⟨_,rfl⟩;have T0:TC w.heap.size macZ W0:=by rw[R];exact TC.boxed w macZ _
 have B0:Below w.heap.size w W0:=by rw[R];exact box_bel _ _
 have a7:W0.heap.size=w.heap.size+1:=by rw[R];simp
 obtain⟨es,S⟩:∃es:Nat->Rx,es=λj=>rxOf (f j):=⟨_,rfl⟩
 have a5:∀j,j<n->(Pg.readParts (bat (f j)) (f j).size).ok=true:=λj hj=>((q0N (f j)).2 (hok j hj)).2.2
 have ae:=(q6i es (λj=>placesP (f j)) n (λi hi=>by rw[S];exact q3i (f i) (a5 i hi)) hsum).2;have HL:Hid (LiveNet (netN es n) (netH es n) (netB es n) (netF es n)):=q8H es n h1 h8 ae (λk hk=>by rw[S];exact q7H (f k) (hok k hk));have bd:Hid (∀p,p<netN es n->Goal (netN es n) (netB es n) p):=q8I es n h8 ae;have aI:Hid (Calls Tryz.prog 64 #[.slice (some ⟨b,off,none⟩) n cap] W0 (OfPost es n W0)):=by
  show Calls _ _ _ _ _;rw[S];exact y3K b off cap n f W0 h1 h8 (by omega) hm (hr.below hb B0) hok hsum
 have aJ:Hid (W0=w.alloc (.cells #[.int .i64 0,.slice none 0 0,.slice none 0 0,.slice none 0 0] 25)):=R;rw[<-S];have am:Hid (W0.heap.size=w.heap.size+1):=a7;have HN:Hid (netN es n<=96):=ae;have bp:(n:Int)<=8:=by omega
 clear R S a5 ae a7 hr hok hsum hm;go_enter Tryz.func34,Tryz.ntmps34;go_wp2_with fail;rw[<-aJ.out];refine aI.out.mono ?_;rintro en w2 ⟨vh,vb,rfl,OH,OB,B2⟩;have aG:Hid (OwnH W0.heap.size vh (mkL (netN es n) (netH es n)) w2/\OwnS W0.heap.size vb (mkL (netN es n) (netB es n)) w2/\Below w.heap.size w w2/\TC w.heap.size macZ w2/\w.heap.size+1<=w2.heap.size):=⟨OH,OB,B0.trans (B2.mono (by have:=am.out;omega)),T0.block (B2.block _ (by have:=am.out;omega)),by have:=am.out;have:=B2.size;omega⟩;obtain⟨Z,hZ⟩:∃Z,Z=netV vh vb (netF es n):=⟨_,rfl⟩;rw[<-hZ];have aP:Hid (Z=netV vh vb (netF es n)):=hZ;have HZ:Hid (Z.length=106):=by show _=_;rw[hZ];exact q2p _ _ _
 have T:vh.oneCell'=true:=by obtain⟨a1,c1,e1,_⟩:=OH.at_;rw[e1];rfl
 have U:vb.oneCell'=true:=by obtain⟨a1,c1,e1,_⟩:=OB.at_;rw[e1];rfl
 have aH:Hid (Z.toArray.all (·.oneCell')=true):=by show _=true;rw[hZ];exact q4d T U _
 clear OH OB B2 hZ T U B0 T0 aI aJ;go_wp2_with (first|(with_reducible refine gst 137 ?_;refine Stop.out ?_));refine⟨?_⟩;obtain⟨w3,ar⟩:∃W,W=(w2.alloc (.cells netZ.toArray 137)).setCells w2.heap.size 0 Z:=⟨_,rfl⟩;have a:=q1o w2 netZ Z 137 (by rw[HZ.out];exact(q2p _ _ _).symm);rw[<-ar]at a;obtain⟨B3,r3,s3,t3⟩:=a;obtain⟨OH,OB,ax,T2,z2⟩:=aG.out;refine wpList_store_mid rfl 137 _ _ rfl w2.heap.size 0 Z.toArray rfl rfl (by simpa using t3) (by simpa[HZ.out]using q1U) aH.out ?_;rw[List.toList_toArray,<-ar];rw[aP.out]at r3;obtain⟨ha,hc,ba,bc,N3⟩:=y1z r3 (OH.below B3) (OB.below B3);have M:Below w.heap.size w w3:=ax.trans (B3.mono (by omega));have T3:=T2.block (B3.block _ (by omega));have aC:Hid (Calls Tryz.prog 65 #[.pointer (some ⟨w2.heap.size,0,none⟩)] w3 (KindPost (Kq (netH es n) (netN es n)) w3)):=q8e w2.heap.size ha hc (netN es n) (netH es n) w3 HN.out N3.c0 N3.h;have aF:Hid (NR w2.heap.size ha hc (netN es n) (netH es n) ba bc (netB es n) (netF es n) w3):=N3;have aL:Hid (Below w.heap.size w w3/\TC w.heap.size macZ w3/\w2.heap.size+1<=w3.heap.size/\w.heap.size+1<=w2.heap.size):=⟨M,T3,s3,z2⟩;clear ar OH OB ax T2 t3 r3 N3 M T3 B3 aG aH HZ aP s3 z2;go_wp2_with fail;refine aC.out.mono ?_;rintro en z ⟨kf,vl,rfl,a3,OU,B4⟩;obtain⟨Kc,Q⟩:∃K,K=kcells kf vl:=⟨_,rfl⟩;rw[<-Q];have al:Hid (Kc.length=257):=by show _=_;rw[Q];exact q1b _ _
 obtain⟨la,lc,an,aS⟩:=OU.lb (λk b hk=>y3A hk);have aA:Hid (Kc.toArray.all (·.oneCell')=true):=by
  show _=true;rw[Q,an,List.all_toArray];simp[kcells,Value.oneCell']
 have aB:Hid (Kc=kcells kf vl):=Q;clear Q;go_wp2_with (first|(with_reducible refine gst 142 ?_;refine Stop.out ?_));refine⟨?_⟩;obtain⟨w5,au⟩:∃W,W=(z.alloc (.cells (kcells (λ_=>0) (.slice none 0 0)).toArray 142)).setCells z.heap.size 0 Kc:=⟨_,rfl⟩;have a:=q1o z (kcells (λ_=>0) (.slice none 0 0)) Kc 142 (by rw[al.out,q1b]);rw[<-au]at a;obtain⟨B5,r5,s5,t5⟩:=a;refine wpList_store_mid rfl 142 _ _ rfl z.heap.size 0 Kc.toArray rfl rfl (by simpa using t5) (by simpa[al.out]using q2H) aA.out ?_;rw[List.toList_toArray,<-au];obtain⟨M,T3,z3,z2⟩:=aL.out;have z4:=B4.size;rw[aB.out]at r5;obtain⟨rk,ck⟩:=y0A r5;rw[an]at ck;obtain⟨m,hm⟩:∃m,m=(kdN es n).length:=⟨_,rfl⟩;have a4:m=(reps (Kq (netH es n) (netN es n)) 256).length:=hm;rw[<-a4]at ck;have bo:m<=256:=by rw[hm];exact(q3M _ _).2
 have N5:=(aF.out.below B4).below B5;have D:Below w.heap.size w w5:=(M.trans (B4.mono (by omega))).trans (B5.mono (by omega));have T5:=(T3.block (B4.block _ (by omega))).block (B5.block _ (by omega));have az:Hid (Calls Tryz.prog 66 #[.pointer (some ⟨w2.heap.size,0,none⟩),.slice la m lc] w5 (ExPost (aftN es n) (netF es n) (kdN es n) w5)):=by
  show Calls _ _ _ _ _;rw[hm];exact q8q w2.heap.size ha hc (netN es n) (netH es n) ba bc (netB es n) (netF es n) la lc (kdN es n) w5 HN.out (q3M _ _).2 N5 (aS.below B5)
 have aM:Hid (Below w.heap.size w w5/\TC w.heap.size macZ w5/\z.heap.size+1<=w5.heap.size/\w.heap.size+1<=z.heap.size/\w5.rangeAt z.heap.size 0 (kl kf)):=⟨D,T5,s5,by omega,rk⟩;have Hm:Hid (m=(kdN es n).length):=hm;have aR:Hid (∀b,b<256->kf b=kdF es n b):=a3;clear au r5 rk B5 s5 t5 M T3 z3 z2 z4 N5 D T5 hm a4 a3 an OU aS B4 aA al aB aC aF aL;go_wp2_with fail;refine az.out.mono ?_;rintro en o ⟨B6,aq⟩;obtain⟨D,T5,z5,z4,rk⟩:=aM.out;have T6:=T5.block (B6.block _ (by omega));have I:Below w.heap.size w o:=D.trans (B6.mono D.size);rcases aq with ⟨vs,vt,l,t,rfl,hE,OS,OL⟩|⟨rfl,aY⟩
 ·rw[<-Hm.out];go_wp2_with (first|(with_reducible refine gst 146 ?_;refine Stop.out ?_));refine⟨?_⟩;obtain⟨B,E⟩:∃W,W=(o.alloc (.cells grZ.toArray 146)).setCells o.heap.size 0 [.int .i64 m,vs,vt]:=⟨_,rfl⟩;have a:=q1o o grZ [.int .i64 m,vs,vt] 146 rfl;rw[<-E]at a;obtain⟨Y,r7,s7,t7⟩:=a;obtain⟨_,_,aU,_⟩:=OS.at_;obtain⟨_,_,aV,_⟩:=OL.il;refine wpList_store_mid rfl 146 _ _ rfl o.heap.size 0 #[.int .i64 m,vs,vt] rfl rfl t7 q1s (by simp[aU,aV,Value.oneCell']) ?_;rw[List.toList_toArray];have y:B=(o.alloc (.cells #[.int .i64 0,.slice none 0 0,.slice none 0 0] 146)).setCells o.heap.size 0 [.int .i64 m,vs,vt]:=E;rw[<-y];have z6:=B6.size;have T7:=T6.block (Y.block _ (by omega));have s:Below w.heap.size w B:=I.trans (Y.mono I.size);rw[Hm.out]at r7;obtain⟨ta,tc,sa,sc,G7,S7⟩:=q9E (q3M _ _).1 hE (OS.below Y) (OL.below Y) r7;have a8:B.rangeAt z.heap.size 0 (kl kf):=λj v hv=>by
   have h:=rk j v hv;rw[Y.cell (p:=⟨z.heap.size,0+j,none⟩) (by show z.heap.size<o.heap.size;omega),B6.cell (p:=⟨z.heap.size,0+j,none⟩) (by show z.heap.size<w5.heap.size;omega)];exact h
  obtain⟨A,hA⟩:∃A,A=autOf l t (kdN es n).length:=⟨_,rfl⟩;have aX:=hE.size;have ac:Aut.Small A:=by rw[hA];exact⟨aX.2.1,(q3M _ _).2⟩
  have ap:A.Good:=by rw[hA];exact q5C HL.out bd.out (q8N _ _) hE
  have ao:A.N=l.length:=by rw[hA];rfl
  have aW:A.K=(kdN es n).length:=by rw[hA];rfl
  have af:∀i,i<A.N->A.vd i=vdF ((λi r=>(l.getD i noB) (96+r)) i) 8 0:=λi _=>by rw[hA];rfl
  rw[show autOf l t (kdL (netH es n) (netN es n)).length=A from hA.symm,<-ao]at G7;rw[<-ao]at S7;obtain⟨rl,a6⟩:∃rl:Nat->Nat->Bool,rl=λi r=>(l.getD i noB) (96+r):=⟨_,rfl⟩
  rw[<-a6]at S7 af;have a2:∀b,b<256->0<=kf b/\kf b<A.K:=λb hb=>by
   have h1:=idx_lt (q3D (netH es n) (netN es n) 256) hb;rw[aR.out b hb,aW];have h2:kdF es n b=(idx (Kq (netH es n) (netN es n)) b:Int):=rfl;have h3:(kdN es n).length=cnt (Kq (netH es n) (netN es n)) 256:=rfl;omega
  have ay:Hid (Calls Tryz.prog 67 #[.pointer (some ⟨o.heap.size,0,none⟩)] B (SortPost (alB A) A.N B)):=y1b o.heap.size A ta tc sa sc rl B ac ap (by omega) G7 S7 af;have aD:Hid (∀(vo vf:Value) (b1 b2:Nat) (W:World),Below B.heap.size B W->OwnL b1 vo (ofL (alB A) A.N) W->OwnL b2 vf (firstL (alB A) A.N) W->Calls Tryz.prog 68 #[.pointer (some ⟨o.heap.size,0,none⟩),.pointer (some ⟨z.heap.size,0,none⟩),.agg #[vo,vf]] W (MachPost A (alB A) kf W)):=λvo vf b1 b2 W hW ho hf=>
   q6n o.heap.size A ta tc sa sc rl z.heap.size kf (alB A) b1 b2 vo vf W ac ap.rng (G7.below hW) (S7.below hW) af (λj v hv=>by
    rw[hW.cell (p:=⟨z.heap.size,0+j,none⟩) (by show z.heap.size<B.heap.size;omega)];exact a8 j v hv) a2 ho hf
  have ab:Hid (A=autOf l t (kdN es n).length/\Exp (aftN es n) (netF es n) (kdN es n) l.length 0 l t):=⟨hA,hE⟩;have aN:Hid (Below w.heap.size w B/\TC w.heap.size macZ B/\w.heap.size+1<=B.heap.size):=⟨s,T7,by omega⟩;have bb:Hid (A.N<=200):=ac.n;clear E y T7 s T6 I T5 D rk a8 Y r7 t7 hA aX ac ap ao aW af G7 S7 a6 a2 hE OS OL aU aV z6 s7 B6 z5 z4 aM az;go_wp2_with fail;refine ay.out.mono ?_;rintro en w8 ⟨vo,vf,rfl,Oo,Of,bi,B8⟩;obtain⟨fa,fc,P,_⟩:=Of.il;rw[q0u]at P;obtain⟨C,hC⟩:∃C,C=cnt (alB A) A.N:=⟨_,rfl⟩;rw[<-hC]at P;have aj:Hid ((#[vo,vf]:Array Value).all (·.oneCell')=true):=by
   obtain⟨_,_,bf,_⟩:=Oo.il;show _=true;simp[bf,P,Value.oneCell']
  have ai:Hid (vf=.slice fa C fc):=P;have HC:Hid (C=cnt (alB A) A.N):=hC;clear P hC;go_wp2_with (first|(with_reducible refine gst 150 ?_;refine Stop.out ?_));refine⟨?_⟩;obtain⟨X,av⟩:∃W,W=(w8.alloc (.cells [.slice none 0 0,.slice none 0 0].toArray 150)).setCells w8.heap.size 0 [vo,vf]:=⟨_,rfl⟩;have a:=q1o w8 [.slice none 0 0,.slice none 0 0] [vo,vf] 150 rfl;rw[<-av]at a;obtain⟨B9,r9,s9,t9⟩:=a;refine wpList_store_mid rfl 150 _ _ rfl w8.heap.size 0 #[vo,vf] rfl rfl t9 q1m aj.out ?_;rw[List.toList_toArray];have ak:X=(w8.alloc (.cells #[.slice none 0 0,.slice none 0 0] 150)).setCells w8.heap.size 0 [vo,vf]:=av;rw[<-ak];obtain⟨s,T7,z7⟩:=aN.out;have z8:=B8.size;have u:Below w.heap.size w X:=(s.trans (B8.mono (by omega))).trans (B9.mono (by omega));have T9:=(T7.block (B8.block _ (by omega))).block (B9.block _ (by omega));have cf:X.cell? ⟨w8.heap.size,1,none⟩=some (.slice fa C fc):=by rw[<-ai.out];simpa using r9 1 _ rfl
  have aE:Hid (Calls Tryz.prog 68 #[.pointer (some ⟨o.heap.size,0,none⟩),.pointer (some ⟨z.heap.size,0,none⟩),.agg #[vo,vf]] X (MachPost A (alB A) kf X)):=aD.out vo vf _ _ X (B8.trans (B9.mono z8)) (Oo.below B9) (Of.below B9);have bn:(C:Int)<=200:=by have h1:=cnt_le (alB A) A.N;have h2:=bb.out;have h3:=HC.out;omega
  have aO:Hid (Below w.heap.size w X/\TC w.heap.size macZ X/\w.heap.size+1<=X.heap.size):=⟨u,T9,by omega⟩;clear av ak Oo Of bi B8 B9 s9 t9 ai aj s T7 z7 z8 u T9 aN aD ay;by_cases aZ:96<C
  ·have a0:(C:Int) > 96:=by omega
   obtain⟨u,T9,z9⟩:=aO.out;obtain⟨tz,BX,c,_⟩:=q1e (.int .i64 0) (.slice none 0 0) (.slice none 0 0) (.slice none 0 0) T9 u;obtain⟨L,g⟩:∃W,W=X.setCells w.heap.size 0 [.int .i64 0,.slice none 0 0,.slice none 0 0,.slice none 0 0]:=⟨_,rfl⟩;rw[<-g]at BX c;have O:Hid (L=X.setCells w.heap.size 0 [.int .i64 0,.slice none 0 0,.slice none 0 0,.slice none 0 0]):=g;have x:Hid ((loadVar 25 ⟨w.heap.size,0,none⟩).run Tryz.prog L=.ok (.agg #[.int .i64 0,.slice none 0 0,.slice none 0 0,.slice none 0 0]) L):=c;clear g c T9 u z9 r9;go_wp2_with (first|(with_reducible refine gst 25 ?_;refine Stop.out ?_));refine⟨?_⟩;refine wpList_store_mid rfl 25 _ _ rfl w.heap.size 0 #[.int .i64 0,.slice none 0 0,.slice none 0 0,.slice none 0 0] rfl rfl tz q0D (by simp[Value.oneCell']) ?_;rw[List.toList_toArray,<-O.out];go_wp2_with fail;refine bodyPost_ret (v:=.tuple #[.agg #[.int .i64 0,.slice none 0 0,.slice none 0 0,.slice none 0 0],.int .i64 9]) (q0L Tryz.results34 rfl x.out rfl) rfl ?_;exact⟨BX,Or.inr ⟨l,t,A,ab.out.1,ab.out.2,Or.inl ⟨by rw[<-HC.out];exact aZ,rfl⟩⟩⟩
  have a0:¬(C:Int) > 96:=by omega
  go_wp2_with (first|(with_reducible refine gld 150 ?_;refine Stop.out ?_));refine⟨?_⟩;refine wpList_load_mid rfl 150 _ rfl w8.heap.size 0 rfl [vo,vf] _ r9 Tryz.underlying150 rfl q1m ?_
  (try simp only[psm])
  clear r9 cf;go_wp2_with fail;refine aE.out.mono ?_;rintro en d ⟨vc,vl,vn,rfl,o1,o2,o3,n1,n2,n3,aa⟩;obtain⟨_,_,e1,_⟩:=o1.il;obtain⟨_,_,e2,_⟩:=o2.il;obtain⟨_,_,e3,_⟩:=o3.il;have be:Hid ((#[.int .i64 0,vc,vl,vn]:Array Value).all (·.oneCell')=true):=by
   show([.int .i64 0,vc,vl,vn]:List Value).toArray.all (·.oneCell')=true;rw[List.all_toArray,e1,e2,e3];rfl
  have aQ:Hid ((#[.int .i64 n,vc,vl,vn]:Array Value).all (·.oneCell')=true):=by
   show([.int .i64 n,vc,vl,vn]:List Value).toArray.all (·.oneCell')=true;rw[List.all_toArray,e1,e2,e3];rfl
  clear e1 e2 e3;go_wp2_with (first|(with_reducible refine gst 25 ?_;refine Stop.out ?_));refine⟨?_⟩;obtain⟨ag,F⟩:∃W,W=(d.alloc (.cells macZ.toArray 25)).setCells d.heap.size 0 [.int .i64 0,vc,vl,vn]:=⟨_,rfl⟩;have a:=q1o d macZ [.int .i64 0,vc,vl,vn] 25 rfl;have TM:TC d.heap.size [.int .i64 0,vc,vl,vn] ag:=by rw[F];exact q4s a.2.2.2
  rw[<-F]at a;obtain⟨aw,_,bj,a9⟩:=a;refine wpList_store_mid rfl 25 _ _ rfl d.heap.size 0 #[.int .i64 0,vc,vl,vn] rfl rfl a9 q0D be.out ?_;rw[List.toList_toArray];have V:ag=(d.alloc (.cells #[.int .i64 0,.slice none 0 0,.slice none 0 0,.slice none 0 0] 25)).setCells d.heap.size 0 [.int .i64 0,vc,vl,vn]:=F;rw[<-V];obtain⟨u,T9,z9⟩:=aO.out;have bm:=aa.size;obtain⟨J,G⟩:∃W,W=ag.setCell ⟨d.heap.size,0,none⟩ (.int .i64 n):=⟨_,rfl⟩;have TN:TC d.heap.size [.int .i64 n,vc,vl,vn] J:=by rw[G];exact TM.set 0 (by simp) _
  have H:Below d.heap.size d J:=by rw[G];exact aw.setCell (p:=⟨d.heap.size,0,none⟩) (Nat.le_refl _) _
  have ah:Below w.heap.size w J:=(u.trans (aa.mono (by omega))).trans (H.mono (by omega));have aT:=(T9.block (aa.block _ (by omega))).block (H.block _ (by omega));obtain⟨tz,BX,c,hG⟩:=q1e (.int .i64 n) vc vl vn aT ah;have rM:=TN.range;have cm:=(TM 0 _ rfl).1;have fm:=(TM 0 _ rfl).2;have b1:=o1.blk;have b2:=o2.blk;have b3:=o3.blk;have O1:=(o1.below H).grown hG (λq hq e=>by have:=Option.some.inj e;have:=(b1 q hq).1;omega);have O2:=(o2.below H).grown hG (λq hq e=>by have:=Option.some.inj e;have:=(b2 q hq).1;omega);have O3:=(o3.below H).grown hG (λq hq e=>by have:=Option.some.inj e;have:=(b3 q hq).1;omega);obtain⟨L,g⟩:∃W,W=J.setCells w.heap.size 0 [.int .i64 n,vc,vl,vn]:=⟨_,rfl⟩;rw[<-g]at BX c O1 O2 O3;have O:Hid (L=J.setCells w.heap.size 0 [.int .i64 n,vc,vl,vn]):=g;have aK:Hid (J=ag.setCell ⟨d.heap.size,0,none⟩ (.int .i64 n)):=G;have x:Hid ((loadVar 25 ⟨w.heap.size,0,none⟩).run Tryz.prog L=.ok (.agg #[.int .i64 n,vc,vl,vn]) L):=c;have HP:Hid (MBPost es n w (.returned (.tuple #[.agg #[.int .i64 n,vc,vl,vn],.int .i64 0])) L):=
   ⟨BX,Or.inr ⟨l,t,A,ab.out.1,ab.out.2,Or.inr ⟨by rw[<-HC.out];exact aZ,vc,vl,vn,kf,rfl,aR.out,O1.mono (by omega),O2.mono (by omega),O3.mono (by omega),n1,n2,n3⟩⟩⟩
  clear F V G g c hG O1 O2 O3 b1 b2 b3 o1 o2 o3 n1 n2 n3 aa aw H u T9 ah aT BX TM TN z9 bm bj a9;go_wp2_with (first|(with_reducible refine gld 25 ?_;refine Stop.out ?_));refine⟨?_⟩;rw[<-aK.out];refine wpList_load_mid rfl 25 _ rfl d.heap.size 0 rfl [.int .i64 n,vc,vl,vn] _ rM Tryz.underlying25 rfl q0D ?_
  (try simp only[psm])
  refine wpList_store_mid rfl 25 _ _ rfl w.heap.size 0 #[.int .i64 n,vc,vl,vn] rfl rfl tz q0D aQ.out ?_;rw[List.toList_toArray,<-O.out];go_wp2_with fail;exact bodyPost_ret (v:=.tuple #[.agg #[.int .i64 n,vc,vl,vn],.int .i64 0]) (q0L Tryz.results34 rfl x.out rfl) rfl HP.out
 go_wp2_with (first|(with_reducible refine gst 146 ?_;refine Stop.out ?_));refine⟨?_⟩;obtain⟨B,E⟩:∃W,W=(o.alloc (.cells grZ.toArray 146)).setCells o.heap.size 0 grZ:=⟨_,rfl⟩;have a:=q1o o grZ grZ 146 rfl;rw[<-E]at a;obtain⟨Y,r7,s7,t7⟩:=a;refine wpList_store_mid rfl 146 _ _ rfl o.heap.size 0 grZ.toArray rfl rfl t7 q1s (by simp[grZ,Value.oneCell']) ?_;rw[List.toList_toArray];have y:B=(o.alloc (.cells #[.int .i64 0,.slice none 0 0,.slice none 0 0] 146)).setCells o.heap.size 0 grZ:=E;rw[<-y];have T7:=T6.block (Y.block _ (by have:=B6.size;omega));have s:Below w.heap.size w B:=I.trans (Y.mono I.size);obtain⟨tz,BX,c,_⟩:=q1e (.int .i64 0) (.slice none 0 0) (.slice none 0 0) (.slice none 0 0) T7 s;obtain⟨L,g⟩:∃W,W=B.setCells w.heap.size 0 [.int .i64 0,.slice none 0 0,.slice none 0 0,.slice none 0 0]:=⟨_,rfl⟩;rw[<-g]at BX c;have O:Hid (L=B.setCells w.heap.size 0 [.int .i64 0,.slice none 0 0,.slice none 0 0,.slice none 0 0]):=g;have x:Hid ((loadVar 25 ⟨w.heap.size,0,none⟩).run Tryz.prog L=.ok (.agg #[.int .i64 0,.slice none 0 0,.slice none 0 0,.slice none 0 0]) L):=c;clear E y g c T7 s T6 I T5 D rk Y r7 t7;go_wp2_with (first|(with_reducible refine gst 25 ?_;refine Stop.out ?_));refine⟨?_⟩;refine wpList_store_mid rfl 25 _ _ rfl w.heap.size 0 #[.int .i64 0,.slice none 0 0,.slice none 0 0,.slice none 0 0] rfl rfl tz q0D (by simp[Value.oneCell']) ?_;rw[List.toList_toArray,<-O.out];go_wp2_with fail;refine bodyPost_ret (v:=.tuple #[.agg #[.int .i64 0,.slice none 0 0,.slice none 0 0,.slice none 0 0],.int .i64 8]) (q0L Tryz.results34 rfl x.out rfl) rfl ?_;exact⟨BX,Or.inl ⟨rfl,aY⟩⟩
end Go.Proofs.YtoaaklhpmhjhkaaGreat
namespace Go.Proofs.YtoaaklhpmhjhkaaGreat
open Go.RowKit
open Bm
theorem q1Z (w:World):(zeroValue 118).run Tryz.prog w=.ok (.agg #[.int .i64 0,.slice none 0 0,.slice none 0 0,.int .i64 0,.int .i64 0]) w:=by kernel_rfl
theorem q1y:(Tryz.prog.info? 118).map (·.size)=some 5:=by kernel_rfl
def nodZ:List Value:=[.int .i64 0,.slice none 0 0,.slice none 0 0,.int .i64 0,.int .i64 0]
def ndC (d:Nd) (vin:Value) (ka:Option Addr) (kc:Nat):List Value:=[.int .i64 d.kind,vin,.slice ka d.kids.length kc,.int .i64 d.up,.int .i64 d.at_]
def TR (tb:Nat) (T:Nat->Nd) (N:Nat) (w:World):Prop:=
 ∃na nc,w.cell? ⟨tb,0,none⟩=some (.slice na N nc)/\∀i,i<N->∃nb off vin ka kc,na=some ⟨nb,off,none⟩/\w.rangeAt nb (off+i*5) (ndC (T i) vin ka kc)/\vin.oneCell'=true/\IL ka (λk=>(((T i).kids.getD k 0:Nat):Int)) (T i).kids.length w/\((T i).kind=0->∃ia ic,vin=.slice ia 256 ic/\BR ia (T i).inn 256 w)
variable {kids : List Nat}{xs : List Value}{M N P R b base gb n size tb : Nat}{Ns nd ti : Nat → Nat}{T : Nat → Nd}{S S' S1 S2 : Nat → Prop}{v v1 v2 vk vr : Value}{w w' w1 w2 : World}
theorem TR.below (h:TR tb T N w) (hW:Below w.heap.size w w'):TR tb T N w':=by
 obtain⟨s,nc,c,h⟩:=h;refine⟨s,nc,by rw[hW.cell (p:=⟨tb,0,none⟩) (World.block_lt_of_cell? w _ c)];exact c,λi d=>?_⟩;obtain⟨nb,off,a,n,q,e,r,o,il,f⟩:=h i d;refine⟨nb,off,a,n,q,e,λj v g=>?_,o,il.below hW,λk=>?_⟩
 ·have:=r j v g;rw[hW.cell (p:=⟨nb,off+i*5+j,none⟩) (World.block_lt_of_cell? w _ this)];exact this
 obtain⟨l,m,e2,b⟩:=f k;exact⟨l,m,e2,b.below hW⟩
theorem q1R (tb:Nat) (T:Nat->Nd) (N:Nat) (hN:N<=1000000) (hw:Wf T N) (hk4:∀i,i<N->(T i).kind<=4) (nl:Nat->Bool) (h0:∀n,n<N->(T n).kind=0->nl n=false) (h1:∀n,n<N->(T n).kind=1\/(T n).kind=4->nl n=(T n).kids.all nl) (h2:∀n,n<N->(T n).kind=2->nl n=(T n).kids.any nl) (h3:∀n,n<N->(T n).kind=3->nl n=true):
  ∀(f n:Nat) (w:World),n<f->n<N->TR tb T N w->(∀i,i<N->(T i).kids.length<=1000000)->Calls Tryz.prog 115 #[.pointer (some ⟨tb,0,none⟩),.int .i64 n] w λe w'=>e=.returned (.bool (nl n))/\Below w.heap.size w w'
 |0,n,w,hf,_,_,_=>by omega
 |f+1,n,w,hf,hn,hT,hkl=>by
  have hz:=q1Z;have HI:Hid (∀(k:Nat) (w':World),k∈(T n).kids->Below w.heap.size w w'->Calls Tryz.prog 115 #[.pointer (some ⟨tb,0,none⟩),.int .i64 k] w' λe w''=>e=.returned (.bool (nl k))/\Below w'.heap.size w' w''):=λk w' q hW=>
   q1R tb T N hN hw hk4 nl h0 h1 h2 h3 f k w' (by have:=hw n hn k q;omega) (by have:=hw n hn k q;omega) (hT.below hW) hkl
  obtain⟨na,nc,c0,F⟩:=hT;obtain⟨nb,off,b,u,C,e,r,o,il,_⟩:=F n hn;subst e;have af:(n:Int)<N:=by omega
  have ab:(N:Int)<=1000000:=by omega
  have W:=hkl n hn;have Z:=hk4 n hn;obtain⟨d,hd⟩:=nam (T n);have O:=h0 n hn;have P:=h1 n hn;have Q:=h2 n hn;have R:=h3 n hn;rw[<-hd]at r il W O P Q R HI Z;obtain⟨m,hm⟩:=nam d.kids.length;have ae:(m:Int)<=1000000:=by omega
  have D:=hyd hm;have I:=hyd4 O P Q R;have L:Hid (∀w',Below w.heap.size w w'->IL u (λk=>((d.kids.getD k 0:Nat):Int)) d.kids.length w'):=λw' h=>il.below h
  clear F hd O P Q R h0 h1 h2 h3 il hkl hk4 hw;go_enter Tryz.func115,Tryz.ntmps115;go_wp2_with (first|(with_reducible refine gld 118 ?_;refine Stop.out ?_));refine⟨?_⟩;refine wpList_load_mid rfl 118 _ rfl nb (off+n*5) rfl (ndC d b u C) _ r Tryz.underlying118 rfl q1y ?_
  (try simp only[psm])
  go_wp2_with (first|(with_reducible refine gst 118 ?_;refine Stop.out ?_));refine⟨?_⟩;obtain⟨w2,j⟩:=nam ((w.alloc (.cells nodZ.toArray 118)).setCells w.heap.size 0 (ndC d b u C));have A:=q1o w nodZ (ndC d b u C) 118 rfl;have c:TC w.heap.size (ndC d b u C) w2:=by rw[j];exact q4s A.2.2.2
  rw[<-j]at A;obtain⟨G,_,s2,t2⟩:=A;refine wpList_store_mid rfl 118 _ _ rfl w.heap.size 0 (ndC d b u C).toArray rfl rfl t2 q1y (by simp only[ndC,List.all_toArray,List.all_cons,o];rfl) ?_;rw[List.toList_toArray];have t:w2=(w.alloc (.cells #[.int .i64 0,.slice none 0 0,.slice none 0 0,.int .i64 0,.int .i64 0] 118)).setCells w.heap.size 0 (ndC d b u C):=j;rw[<-t];have M:=(c 0 _ rfl).1;have E:=(c 2 _ rfl).1;rw[<-D.out]at E;clear j t t2 r;by_cases e0:d.kind=0
  ·have q0:((d.kind:Int)==0)=true:=by simp[e0]
   have z:=hyd (I.out.1 e0);clear c;go_wp2_with fail;go_ret;exact⟨q0v z.out.symm,G⟩
  have q0:((d.kind:Int)==0)=false:=by simp;omega
  by_cases e3:d.kind=3
  ·have q3:((d.kind:Int)==3)=true:=by simp[e3]
   have z:=hyd (I.out.2.2.2 e3);clear c;go_wp2_with fail;go_ret;exact⟨q0v z.out.symm,G⟩
  have q3:((d.kind:Int)==3)=false:=by simp;omega
  have v:=hyd2 G c;clear c;go_wp2_with fail
  go_loopw [6,7,8] (λa s x w'=>∃i:Nat,i<=m/\x=.int .i64 i/\a=.bool ((d.kids.take i).all nl)/\s=.bool ((d.kids.take i).any nl)/\Below w.heap.size w w'/\TC w.heap.size (ndC d b u C) w'/\w.heap.size+1<=w'.heap.size) (λ_ _ x _=>m-(intOf x).toNat)
  ·exact⟨0,by omega,rfl,by simp,by simp,v.out.1,v.out.2,s2⟩
  clear M E G v s2;obtain⟨i,hi,rfl,rfl,rfl,B,c,sz⟩:=hrel;have M:=(c 0 _ rfl).1;have E:=(c 2 _ rfl).1;rw[<-D.out]at E;by_cases ac:i<m
  ·have aa:(i:Int)<m:=by omega
   obtain⟨k,q⟩:∃k,d.kids[i]?=some k:=⟨d.kids[i]'(by have:=D.out;omega),List.getElem?_eq_getElem _⟩;obtain⟨g,og,eg,cg⟩:=L.out wr B i (by have:=D.out;omega);subst eg;simp only[List.getD_eq_getElem?_getD,q,Option.getD_some]at cg;have y:=hyd (HI.out k wr (List.mem_of_getElem? q) B);have l:Hid ((d.kids.take (i+1)).all nl=((d.kids.take i).all nl&&nl k)):=by
    show _=_;rw[List.take_add_one,q];simp
   have p:Hid ((d.kids.take (i+1)).any nl=((d.kids.take i).any nl || nl k)):=by
    show _=_;rw[List.take_add_one,q];simp
   have HT:=hyd c;obtain⟨X,S⟩:=nam ((d.kids.take i).all nl);obtain⟨Y,U⟩:=nam ((d.kids.take i).any nl);obtain⟨V,J⟩:=nam (nl k);rw[<-S,<-U];rw[<-S,<-J]at l;rw[<-U,<-J]at p;rw[<-J]at y;clear c q S U J;go_wp2_with fail;refine y.out.mono ?_;rintro e w3 ⟨rfl,H⟩;have T3:=HT.out.block (H.block _ (by omega));have K:Below w.heap.size w w3:=B.trans (H.mono (by omega));have s3:w.heap.size+1<=w3.heap.size:=by have:=H.size;omega
   clear y M E cg H HT;cases X<;>cases Y<;>cases V<;>(go_wp2_with fail;go_roundw;(case rel=>exact⟨i+1,by omega,by go_num,by rw[l.out];rfl,by rw[p.out];rfl,K,T3,s3⟩);(case measure=>simp[intOf];omega))
  have⟨hge,him⟩:¬(i:Int)<m/\i=m:=by omega
  subst him;have ht:d.kids.take i=d.kids:=by rw[D.out,List.take_length]
  rw[ht];by_cases e2:d.kind=2
  ·have q2:((d.kind:Int)==2)=true:=by simp[e2]
   have z:=hyd (I.out.2.2.1 e2);clear c ht;go_wp2_with fail;go_ret;exact⟨q0v z.out.symm,B⟩
  have q2:((d.kind:Int)==2)=false:=by simp;omega
  have z:=hyd (I.out.2.1 (by omega));clear c ht;go_wp2_with fail;go_ret;exact⟨q0v z.out.symm,B⟩
theorem q8Z (tb:Nat) (T:Nat->Nd) (N n:Nat) (w:World) (hN:N<=1000000) (hn:n<N) (hT:TR tb T N w):
  Calls Tryz.prog 201 #[.pointer (some ⟨tb,0,none⟩),.int .i64 n] w λe w'=>e=.returned (.bool (decide ((T n).kind=1/\(T n).kids=[])))/\w'=w:=by
 obtain⟨q,nc,c0,f⟩:=hT;obtain⟨nb,off,m,o,p,e,r,_,_,_⟩:=f n hn;subst e;have g:=r 0 _ rfl;have i:=r 2 _ rfl;have j:(n:Int)<N:=by omega
 obtain⟨d,h⟩:=nam (T n);rw[<-h]at g i ⊢;simp only[Nat.add_zero]at g;clear f r h;by_cases b:d.kind=1
 ·have k:((d.kind:Int)==1)=true:=by simp[b]
  by_cases a:d.kids=[]
  ·have l:((d.kids.length:Int)==0)=true:=by simp[a]
   have c:Hid (decide (d.kind=1/\d.kids=[])=true):=by show _=_;simp[b,a]
   clear b a;go_enter Tryz.func201,Tryz.ntmps201;go_wp2_with fail;go_ret;exact⟨q0v c.out.symm,rfl⟩
  have l:((d.kids.length:Int)==0)=false:=by
   have:d.kids.length≠0:=λe=>a (List.eq_nil_of_length_eq_zero e)
   simp;exact a
  have c:Hid (decide (d.kind=1/\d.kids=[])=false):=by show _=_;simp[a]
  clear b a;go_enter Tryz.func201,Tryz.ntmps201;go_wp2_with fail;go_ret;exact⟨q0v c.out.symm,rfl⟩
 have k:((d.kind:Int)==1)=false:=by simp;omega
 have c:Hid (decide (d.kind=1/\d.kids=[])=false):=by show _=_;simp[b]
 clear b;go_enter Tryz.func201,Tryz.ntmps201;go_wp2_with fail;go_ret;exact⟨q0v c.out.symm,rfl⟩
def flatN (N:Nat) (D:Nat->List Value):List Value:=(List.range N).flatMap D
theorem q2f (N:Nat) (D:Nat->List Value):flatN (N+1) D=flatN N D++D N:=by simp[flatN,List.range_succ]
theorem q2X {D E:Nat->List Value} (h:∀i,i<N->D i=E i):flatN N D=flatN N E:=by
 induction N with
 |zero=>rfl
 |succ N ih=>rw[q2f,q2f,ih (λi a=>h i (by omega)),h N (by omega)]
theorem q2g {D:Nat->List Value} (h:∀i,(D i).length=5):(flatN N D).length=N*5:=by
 induction N with
 |zero=>rfl
 |succ N ih=>rw[q2f,List.length_append,ih,h];omega
theorem q2q {D:Nat->List Value} (h:∀i,(D i).length=5) (i j:Nat) (hi:i<N) (hj:j<5):(flatN N D)[i*5+j]?=(D i)[j]?:=by
 induction N with
 |zero=>omega
 |succ N ih=>
  rw[q2f];by_cases e:i<N
  ·rw[List.getElem?_append_left (by rw[q2g h];omega)];exact ih e
  have:i=N:=by omega
  subst this;rw[List.getElem?_append_right (by rw[q2g h];omega),q2g h,Nat.add_sub_cancel_left]
theorem q7u {D:Nat->List Value} (h:∀i,(D i).length=5) (k j:Nat) (_hk:k<N) (hj:j<5) (u:Value):(flatN N D).set (k*5+j) u=flatN N (λi=>if i=k then (D k).set j u else D i):=by
 have d:∀i,((λi=>if i=k then (D k).set j u else D i) i).length=5:=λi=>by
  by_cases e:i=k
  ·simp[e,h]
  simp[e,h]
 refine List.ext_getElem? (λx=>?_);rcases Nat.lt_or_ge x (N*5)with hx|hx
 ·have f:x/5<N:=Nat.div_lt_of_lt_mul (by omega);have g:=Nat.mod_lt x (show 0<5 by omega);have l:x/5*5+x%5=x:=by have:=Nat.div_add_mod x 5;omega
  have b:=q2q h (x/5) (x%5) f g;have c:=q2q d (x/5) (x%5) f g;rw[l]at b c;rw[c];by_cases e:x=k*5+j
  ·have⟨a,e2⟩:x/5=k/\x%5=j:=by omega
   rw[e,List.getElem?_set_self (by rw[q2g h];omega)];rw[<-e,a,e2];simp only[if_true];rw[List.getElem?_set_self (by rw[h];omega)]
  rw[List.getElem?_set_ne (λq=>e q.symm),b];by_cases a:x/5=k
  ·simp only[a,if_true];rw[List.getElem?_set_ne (λq=>e (by omega))]
  simp only[a,if_false]
 rw[List.getElem?_eq_none (by simp[q2g h];omega),List.getElem?_eq_none (by rw[q2g d];omega)]
structure Lie where
 vin:Nat->Value
 ka:Nat->Option Addr
 kc:Nat->Nat
def ndL (T:Nat->Nd) (m:Lie) (i:Nat):List Value:=ndC (T i) (m.vin i) (m.ka i) (m.kc i)
theorem q2V (T:Nat->Nd) (m:Lie) (i:Nat):(ndL T m i).length=5:=rfl
def AgX (S:Nat->Prop) (w w':World):Prop:=∀k,S k->w'.heap[k]?=w.heap[k]?
theorem AgX.refl (S:Nat->Prop) (w:World):AgX S w w:=λ_ _=>rfl
theorem AgX.trans (a:AgX S w w1) (b:AgX S w1 w2):AgX S w w2:=λk c=>(b k c).trans (a k c)
structure TF (tb:Nat) (v v':Value) (S S':Nat->Prop) (w w':World):Prop where
 b:Below tb w w'
 k:∀k,k<w.heap.size->k≠tb->v.ownBlock≠some k->w'.heap[k]?=w.heap[k]?
 o:∀k,v'.ownBlock=some k->v.ownBlock=some k\/w.heap.size<=k
 s:∀k,S' k->S k\/w.heap.size<=k
theorem TF.of (v:Value) (S:Nat->Prop) {w w':World} (hb:tb<=w.heap.size) (h:Below w.heap.size w w'):TF tb v v S S w w':=⟨h.mono hb,λk a _ _=>h.block k a,λ_ h=>Or.inl h,λ_ h=>Or.inl h⟩
theorem TF.trans (a:TF tb v v1 S S1 w w1) (b:TF tb v1 v2 S1 S2 w1 w2):TF tb v v2 S S2 w w2:=by
 have hs:=a.b.size;refine⟨a.b.trans b.b,λk c d f=>?_,λk c=>?_,λk c=>?_⟩
 ·rw[b.k k (by omega) d (λe=>?_),a.k k c d f];rcases a.o k e with h|h
  ·exact f h
  omega
 ·rcases b.o k c with h|h
  ·exact a.o k h
  exact Or.inr (by omega)
 rcases b.s k c with h|h
 ·exact a.s k h
 exact Or.inr (by omega)
structure LieOK (S:Nat->Prop) (T:Nat->Nd) (m:Lie) (N M:Nat) (w:World):Prop where
 o:∀i,i<N->(m.vin i).oneCell'=true
 k:∀i,i<N->∀w',AgX S w w'->IL (m.ka i) (fun k=>(((T i).kids.getD k 0:Nat):Int)) (T i).kids.length w'
 i:∀i,i<N->i<M->(T i).kind=0->∃ia ic,m.vin i=.slice ia 256 ic/\∀w',AgX S w w'->BR ia (T i).inn 256 w'
theorem LieOK.move {m:Lie} (h:LieOK S T m N M w) (f:AgX S w w') (hS:∀k,S k->S' k):LieOK S' T m N M w':=
 ⟨h.o,λi b w2 a=>h.k i b w2 (f.trans (λk c=>a k (hS k c))),λi b j d=>by
  obtain⟨l,n,e,g⟩:=h.i i b j d;exact⟨l,n,e,λw2 a=>g w2 (f.trans (λk c=>a k (hS k c)))⟩⟩
variable {T' : Nat → Nd}
theorem LieOK.congr {m:Lie} (h:LieOK S T m N M w) (e:∀i,i<N->(T' i).kind=(T i).kind/\(T' i).kids=(T i).kids/\(T' i).inn=(T i).inn):LieOK S T' m N M w:=
 ⟨h.o,λi a w2 c=>by rw[(e i a).2.1];exact h.k i a w2 c,λi a d b=>by rw[(e i a).2.2];exact h.i i a d (by rw[<-(e i a).1];exact b)⟩
structure TW (tb base:Nat) (T:Nat->Nd) (N M:Nat) (v vr:Value) (S:Nat->Prop) (w:World):Prop where
 c:TC tb [v,vr] w
 o:∃m:Lie,w.ownsRow base 118 5 v N (flatN N (ndL T m))/\LieOK S T m N M w
 s:∀k,S k->k<w.heap.size/\k≠tb/\v.ownBlock≠some k
theorem TW.blk (h:TW tb base T N M v vr S w):∀k,v.ownBlock=some k->base<=k/\k<w.heap.size:=by
 obtain⟨m,a,_⟩:=h.o;exact a.lt
theorem q0R {e:TypeId} (h:w.ownsRow base e size v n xs) (hk:∀k,v.ownBlock=some k->w'.heap[k]?=w.heap[k]?):w'.ownsRow base e size v n xs:=by
 refine⟨h.1,?_⟩;rcases h.2 with b|⟨g,cap,a,rfl,c,d,f⟩
 ·exact Or.inl b
 exact Or.inr ⟨g,cap,a,rfl,c,by rw[hk g rfl];exact d,f⟩
theorem TW.keep (h:TW tb base T N M v vr S w) (hs:w.heap.size<=w'.heap.size) (hb:∀k,k=tb\/v.ownBlock=some k\/S k->w'.heap[k]?=w.heap[k]?):TW tb base T N M v vr S w':=by
 obtain⟨m,b,d⟩:=h.o;exact⟨h.c.block (hb tb (Or.inl rfl)),⟨m,q0R b (λk a=>hb k (Or.inr (Or.inl a))),d.move (λk a=>hb k (Or.inr (Or.inr a))) (λ_ h=>h)⟩,λk a=>⟨by have:=(h.s k a).1;omega,(h.s k a).2⟩⟩
theorem TW.below (h:TW tb base T N M v vr S w) (hW:Below w.heap.size w w'):TW tb base T N M v vr S w':=
 h.keep hW.size (λk b=>hW.block k (by
  rcases b with a|a|a
  ·rw[a];exact h.c.lt
  ·exact(h.blk k a).2
  exact(h.s k a).1))
theorem TW.tr (h:TW tb base T N M v vr S w) (hM:N<=M):TR tb T N w:=by
 obtain⟨m,d,b⟩:=h.o;have c0:=(h.c 0 _ rfl).1;rcases d.2 with ⟨rfl,p⟩|⟨g,cap,n,rfl,_⟩
 ·subst p;exact⟨none,0,c0,λi a=>by omega⟩
 refine⟨some ⟨g,0,none⟩,cap,c0,λi a=>⟨g,0,m.vin i,m.ka i,m.kc i,rfl,λj u f=>?_,b.o i a,b.k i a w (AgX.refl _ _),λs=>?_⟩⟩
 ·have r:j<5:=by have:=(List.getElem?_eq_some_iff.1 f).1;exact this
  have l:=d.cells (g:=g) rfl (i*5+j) u (by rw[q2q (q2V T m) i j a r];exact f);rw[Addr.add_lit,Nat.zero_add]at l;rw[Nat.zero_add];exact l
 obtain⟨t,x,e,q⟩:=b.i i a (by omega) s;exact⟨t,x,e,q w (AgX.refl _ _)⟩
theorem TW.more (h:TW tb base T (N+1) N v vr S w) (hz:(T N).kind≠0):TW tb base T (N+1) (N+1) v vr S w:=by
 obtain⟨m,d,b⟩:=h.o;refine⟨h.c,⟨m,d,b.o,b.k,λi e _ a=>b.i i e ?_ a⟩,h.s⟩;rcases Nat.lt_or_ge i N with h|h
 ·exact h
 have:i=N:=by omega
 rw[this]at a;exact absurd a hz
theorem TW.new (tb base:Nat) (vr:Value) (w:World) (hc:TC tb [.slice none 0 0,vr] w) (T:Nat->Nd):TW tb base T 0 0 (.slice none 0 0) vr (λ_=>False) w:=
 ⟨hc,⟨⟨λ_=>.int .i64 0,λ_=>none,λ_=>0⟩,⟨rfl,Or.inl ⟨rfl,rfl⟩⟩,λi a=>by omega,λi a=>by omega,λi a=>by omega⟩,λk h=>h.elim⟩
def KiL (P:Nat->Prop) (vk:Value) (kids:List Nat) (w:World):Prop:=∃ka kc,vk=.slice ka kids.length kc/\∀w',AgX P w w'->IL ka (λk=>((kids.getD k 0:Nat):Int)) kids.length w'
theorem KiL.nil (w:World):KiL (λ_=>False) (.slice none 0 0) [] w:=⟨none,0,rfl,λw' _ i a=>by simp at a⟩
theorem q3r (kids:List Nat) (k:Nat):(kids.map (λx:Nat=>(x:Int))).getD k 0=((kids.getD k 0:Nat):Int):=by
 simp only[List.getD_eq_getElem?_getD,List.getElem?_map];cases kids[k]?<;>rfl
theorem KiL.of (h:OwnL b vk (kids.map (λx:Nat=>(x:Int))) w):KiL (λk=>vk.ownBlock=some k) vk kids w:=by
 obtain⟨ad,cap,e,il⟩:=h.il;rw[List.length_map]at e;refine⟨ad,cap,e,λw' m i n=>?_⟩;have l:=h.keep (λk p=>m k p);obtain⟨j,c,e',a⟩:=l.il;rw[e,List.length_map]at e';cases e';obtain⟨g,o,d,f⟩:=a i (by rw[List.length_map];exact n);refine⟨g,o,d,?_⟩;rw[f];simp only[q3r]
def GL (gb P R:Nat) (w:World):Prop:=(∃a c,w.cell? ⟨gb,0,none⟩=some (.slice a R c))/\∃a c,w.cell? ⟨gb,1,none⟩=some (.slice a P c)
theorem q7q (gb P R:Nat) (sa:Option Addr) (sc:Nat) (f:Nat->Bool) (w:World) (hP:P<=1000000) (hR:R<=1000000) (hG:GL gb P R w) (hB:BR sa f (P+R) w):
  Calls Tryz.prog 57 #[.pointer (some ⟨gb,0,none⟩),.slice sa (P+R) sc] w λe w'=>e=.returned (.int .i64 (vdF (λr=>f (P+r)) R 0))/\w'=w:=by
 obtain⟨⟨l,p,c0⟩,m,q,c1⟩:=hG;obtain⟨V,d⟩:=nam (vdF (λr=>f (P+r)) R 0);rw[<-d];have b:=hyd d;have i:=hyd hB;clear d hB;go_enter Tryz.func57,Tryz.ntmps57;go_wp2_with fail
 go_loop [5] (λx=>∃(u r:Nat),u+r=R/\x=.int .i64 r/\Hid (V=vdF (λr=>f (P+r)) u r)) (λx=>R-(intOf x).toNat)
 ·exact⟨R,0,rfl,rfl,b⟩
 clear b;obtain⟨u,r,n,rfl,b⟩:=hrel;by_cases k:r<R
 ·have h:(r:Int)<R:=by omega
  rcases u with _|u
  ·omega
  obtain⟨g,o,j,c⟩:=i.out (P+r) (by omega);subst j;cases hf:f (P+r)
  ·rw[hf]at c;have a:Hid (V=vdF (λr=>f (P+r)) u (r+1)):=by show _=_;rw[b.out,vdF,hf];rfl
   clear b hf;go_wp2_with fail
   go_round
   ·exact⟨u,r+1,by omega,by go_num,a⟩
   simp[intOf];omega
  rw[hf]at c;have a:Hid (V=r):=by show _=_;rw[b.out,vdF,hf];rfl
  clear b hf;go_wp2_with fail;go_ret;exact⟨q0l a.out.symm,rfl⟩
 have⟨hge,hu0⟩:¬(r:Int)<R/\u=0:=by omega
 subst hu0;have a:Hid (V=-1):=b;go_wp2_with fail;go_ret;exact⟨q0l a.out.symm,rfl⟩
theorem q3s (gb P R:Nat) (w:World) (hP:P<=1000) (hR:R<=1000) (hG:GL gb P R w):
  Calls Tryz.prog 52 #[.pointer (some ⟨gb,0,none⟩)] w λe w'=>e=.returned (.slice (some ⟨w.heap.size,0,none⟩) (P+R) (P+R))/\TC w.heap.size (bl (λ_=>false) (P+R)) w'/\Below w.heap.size w w'/\w.heap.size+1<=w'.heap.size:=by
 obtain⟨⟨c,h,c0⟩,d,i,c1⟩:=hG;have b:(Instr.makeSlice 78 (.int .i64 ((P:Int)+(R:Int))) (.int .i64 ((P:Int)+(R:Int)))).run Tryz.prog w.drew=.ok (.slice (some ⟨w.heap.size,0,none⟩) (P+R) (P+R)) (w.drew.alloc (.cells (bl (λ_=>false) (P+R)).toArray 4)):=by
  have:=q5i w.drew (P+R) (by omega);rw[Int.natCast_add]at this;exact this
 obtain⟨W,a⟩:=nam (w.drew.alloc (.cells (bl (λ_=>false) (P+R)).toArray 4));rw[<-a]at b;have T:TC w.heap.size (bl (λ_=>false) (P+R)) W:=by rw[a];exact TC.boxed w.drew _ _
 have B:Below w.heap.size w W:=by rw[a];exact(Below.refl _ _).drew.trans (box_bel w.drew _)
 have s:w.heap.size+1<=W.heap.size:=by rw[a];simp
 clear a;go_enter Tryz.func52,Tryz.ntmps52;go_wp2_with fail;refine wp_region_still_tail 11 (by kernel_rfl) (by kernel_rfl) ?_;simp only[List.take_succ_cons,List.take_zero,List.drop_succ_cons,List.drop_zero];change wpStill _ _ w.drew (λa'=>wpList _ _ _ _ a' w.drew) _ _;have f:=c0;have g:=c1
 repeat still_step
 refine wpStill_nil ?_;go_wp2_with fail;rw[b];go_wp2_with fail;go_ret;exact⟨rfl,T,B,s⟩
structure GR (gb P R:Nat) (tr:Nat->Nat) (Ts:Nat->Nat->Nd) (Ns:Nat->Nat) (ti nd:Nat->Nat) (w:World):Prop where
 t:∃a c,w.cell? ⟨gb,0,none⟩=some (.slice a R c)/\∀r,r<R->∃b o,a=some ⟨b,o,none⟩/\w.cell? ⟨b,o+r,none⟩=some (.pointer (some ⟨tr r,0,none⟩))/\TR (tr r) (Ts r) (Ns r) w
 p:∃a c,w.cell? ⟨gb,1,none⟩=some (.slice a P c)/\IL a (fun i=>(ti i:Int)) P w
 n:∃a c,w.cell? ⟨gb,2,none⟩=some (.slice a P c)/\IL a (fun i=>(nd i:Int)) P w
 ok:∀p,p<P->ti p<R/\nd p<Ns (ti p)/\(Ts (ti p) (nd p)).kind=0
variable {tr : Nat → Nat}{Ts : Nat → Nat → Nd}
theorem GR.gl (h:GR gb P R tr Ts Ns ti nd w):GL gb P R w:=by
 obtain⟨a,c,d,_⟩:=h.t;obtain⟨b,c1,e,_⟩:=h.p;exact⟨⟨a,c,d⟩,b,c1,e⟩
theorem GR.below (h:GR gb P R tr Ts Ns ti nd w) (hW:Below w.heap.size w w'):GR gb P R tr Ts Ns ti nd w':=by
 obtain⟨a,c,f,u⟩:=h.t;obtain⟨g,c1,l,v⟩:=h.p;obtain⟨i,c2,m,x⟩:=h.n;have q:=World.block_lt_of_cell? w _ f;have e:∀k,w'.cell? ⟨gb,k,none⟩=w.cell? ⟨gb,k,none⟩:=λk=>hW.cell (p:=⟨gb,k,none⟩) q
 refine⟨⟨a,c,by rw[e];exact f,λr s=>?_⟩,⟨g,c1,by rw[e];exact l,v.below hW⟩,⟨i,c2,by rw[e];exact m,x.below hW⟩,h.ok⟩;obtain⟨b,o,j,c3,d⟩:=u r s;exact⟨b,o,j,by rw[hW.cell (p:=⟨b,o+r,none⟩) (World.block_lt_of_cell? w _ c3)];exact c3,d.below hW⟩
theorem q6N (gb P R:Nat) (tr:Nat->Nat) (Ts:Nat->Nat->Nd) (Ns ti nd:Nat->Nat) (p b:Nat) (w:World) (hP:P<=1000000) (hR:R<=1000000) (hNs:∀r,r<R->Ns r<=1000000) (hG:GR gb P R tr Ts Ns ti nd w) (hp:p<P) (hb:b<256):
  Calls Tryz.prog 116 #[.pointer (some ⟨gb,0,none⟩),.int .i64 p,.int .i64 b] w λe w'=>e=.returned (.bool ((Ts (ti p) (nd p)).inn b))/\Below w.heap.size w w':=by
 obtain⟨H,x0,c0,m⟩:=hG.t;obtain⟨I,x1,c1,o⟩:=hG.p;obtain⟨J,x2,c2,q⟩:=hG.n;obtain⟨i,j,s⟩:=hG.ok p hp;obtain⟨M,Y,A,v⟩:=o p hp;obtain⟨N,Z,e2,x⟩:=q p hp;subst A e2;obtain⟨t,g⟩:=nam (ti p);obtain⟨n,d⟩:=nam (nd p);simp only[<-g,<-d]at v x i j s ⊢;obtain⟨O,o3,B,K,F⟩:=m t i;subst B;have h:=hNs t i;obtain⟨X,nc,y,f⟩:=F;obtain⟨nb,off,G,U,W,C,r,_,_,c⟩:=f n j;obtain⟨Q,S,D,k⟩:=c s;subst C D;obtain⟨ib,T,E,z⟩:=k b hb;subst E;have L:=r 1 _ rfl;obtain⟨u,a⟩:=nam (Ns t);rw[<-a]at h j y;obtain⟨V,l⟩:=nam ((Ts t n).inn b);rw[<-l]at z ⊢;have q1:(p:Int)<P:=by omega
 have⟨q2,q3⟩:(t:Int)<R/\(n:Int)<u:=by omega
 have q4:(b:Int)<256:=by omega
 clear m o q hG f c k r g d a l hNs;go_enter Tryz.func116,Tryz.ntmps116;go_wp2_with fail
 go_quiet (fail)
 go_wp2_with fail;go_ret;exact⟨rfl,q1w _ _ _⟩
end Go.Proofs.YtoaaklhpmhjhkaaGreat
