import Derived.Test.YtoaaklhpmhjhkaaGreatC34
set_option maxRecDepth 100000
set_option maxHeartbeats 4000000
set_option linter.all false
namespace Go.Proofs.YtoaaklhpmhjhkaaGreat
open Go.RowKit
open Bm
open Pg (Pt)
def macZ:List Value:=[.int .i64 0,.slice none 0 0,.slice none 0 0,.slice none 0 0]
def aftN (es:Nat->Rx) (n:Nat) (f:Nat->Bool) (b:Nat):Nat->Bool:=aftTo (netH es n) (netB es n) f b (netN es n)
def kdN (es:Nat->Rx) (n:Nat):List Nat:=kdL (netH es n) (netN es n)
def kdF (es:Nat->Rx) (n:Nat) (b:Nat):Int:=idxI (Kq (netH es n) (netN es n)) b
def MBPost (es:Nat->Rx) (n:Nat) (w:World) (en:Ending) (w':World):Prop:=
 Below w.heap.size w w' /\
 ((en=.returned (.tuple #[.agg macZ.toArray,.int .i64 8])/\∃s k l t f b,Exp (aftN es n) (netF es n) (kdN es n) s k l t/\l[s]?=some f/\(kdN es n)[k]?=some b/\200<=numR l (aftN es n f b)) \/
  ∃l t A,A=autOf l t (kdN es n).length/\Exp (aftN es n) (netF es n) (kdN es n) l.length 0 l t /\
  ((96<cnt (alB A) A.N/\en=.returned (.tuple #[.agg macZ.toArray,.int .i64 9])) \/
   (¬96<cnt (alB A) A.N/\∃vc vl vn kf,en=.returned (.tuple #[.agg #[.int .i64 n,vc,vl,vn],.int .i64 0])/\(∀b,b<256->kf b=kdF es n b) /\
   OwnL w.heap.size vc (clsL (Cl (rwOf A (alB A)) (cnt (alB A) A.N)) kf 256) w'/\OwnL w.heap.size vl (labL A (alB A) (cnt (alB A) A.N)) w'/\OwnL w.heap.size vn (nxtL (rwOf A (alB A)) (reps (Cl (rwOf A (alB A)) (cnt (alB A) A.N)) A.K) (cnt (alB A) A.N)) w' /\
   (∀k,vc.ownBlock=some k->vl.ownBlock≠some k)/\(∀k,vc.ownBlock=some k->vn.ownBlock≠some k)/\(∀k,vl.ownBlock=some k->vn.ownBlock≠some k))))
theorem q1o (w:World) (Z0 Z:List Value) (ty:TypeId) (hl:Z.length=Z0.length):Below w.heap.size w ((w.alloc (.cells Z0.toArray ty)).setCells w.heap.size 0 Z)/\((w.alloc (.cells Z0.toArray ty)).setCells w.heap.size 0 Z).rangeAt w.heap.size 0 Z/\w.heap.size+1<=((w.alloc (.cells Z0.toArray ty)).setCells w.heap.size 0 Z).heap.size/\(w.alloc (.cells Z0.toArray ty)).there w.heap.size 0 Z.length:=by
 have T:=(TC.boxed w Z0 ty).there;rw[<-hl]at T;have hG:=q0e w.heap.size Z 0 (w.alloc (.cells Z0.toArray ty));have B:=box_bel w (.cells Z0.toArray ty);have hs:(w.alloc (.cells Z0.toArray ty)).heap.size=w.heap.size+1:=by simp
 refine⟨B.grown hG B.size (fun q hq=>by cases hq;omega),World.rangeAt_setCells_same _ _ 0 Z T,?_,T⟩;have:=hG.size;omega
variable {kids : List Nat}{L xs : List Value}{M N P R b base gb n size tb : Nat}{Ns nd ti : Nat → Nat}{S S' S1 S2 : Nat → Prop}{v v1 v2 vk vr : Value}{W w w' w1 w2 : World}
theorem q4s {t:Nat} (hth:w.there t 0 L.length):TC t L (w.setCells t 0 L):=fun k v hv=>by
 have h1:=World.rangeAt_setCells_same w t 0 L hth k v hv;have hk:=(List.getElem?_eq_some_iff.1 hv).1;have h2:=(hth k hk).2;rw[Nat.zero_add]at h1 h2;refine⟨h1,?_⟩;rw[World.frozen?_setCells];exact h2
theorem q1e (a b c d:Value) (T:TC w.heap.size macZ W) (B:Below w.heap.size w W):W.there w.heap.size 0 4/\Below w.heap.size w (W.setCells w.heap.size 0 [a,b,c,d])/\(loadVar 25 ⟨w.heap.size,0,none⟩).run Tryz.prog (W.setCells w.heap.size 0 [a,b,c,d])=.ok (.agg #[a,b,c,d]) (W.setCells w.heap.size 0 [a,b,c,d])/\W.grownBy (W.setCells w.heap.size 0 [a,b,c,d]) (some w.heap.size):=by
 have t:=T.there;have hG:=q0e w.heap.size [a,b,c,d] 0 W;exact⟨t,B.grown hG B.size (fun q hq=>by cases hq;omega),run_loadVar_mid (P:=Tryz.prog) _ w.heap.size 0 25 [a,b,c,d] _ (World.rangeAt_setCells_same W w.heap.size 0 [a,b,c,d] t) Tryz.underlying25 rfl q0D,hG⟩
theorem q7l (b off cap n:Nat) (f:Nat->ByteArray) (w:World) (h1:1<=n) (h8:n<=8) (hb:b<w.heap.size) (hm:∀i,i<n->(f i).size<=maxLen) (hr:SRow b off f n w) (hok:∀j,j<n->(Pg.wrong (bat (f j)) (f j).size).1=0) (hsum:¬96<sumTo (fun j=>placesP (f j)) n):
  Calls Tryz.prog 34 #[.slice (some ⟨b,off,none⟩) n cap] w (MBPost (fun j=>rxOf (f j)) n w):=by
 have hz:=q1i;have hz2:=q3Y;have hz3:=q5d;have hz4:=q5e;have hz5:=q4h;obtain⟨W0,hW0⟩:∃W,W=w.alloc (.cells #[.int .i64 0,.slice none 0 0,.slice none 0 0,.slice none 0 0] 25):=⟨_,rfl⟩;have T0:TC w.heap.size macZ W0:=by rw[hW0];exact TC.boxed w macZ _
 have B0:Below w.heap.size w W0:=by rw[hW0];exact box_bel _ _
 have hs0:W0.heap.size=w.heap.size+1:=by rw[hW0];simp
 obtain⟨es,hes⟩:∃es:Nat->Rx,es=fun j=>rxOf (f j):=⟨_,rfl⟩
 have hrd:∀j,j<n->(Pg.readParts (bat (f j)) (f j).size).ok=true:=fun j hj=>((q0N (f j)).2 (hok j hj)).2.2
 have hNs:=(q6i es (fun j=>placesP (f j)) n (fun i hi=>by rw[hes];exact q3i (f i) (hrd i hi)) hsum).2;have HL:Hid (LiveNet (netN es n) (netH es n) (netB es n) (netF es n)):=q8H es n h1 h8 hNs (fun k hk=>by rw[hes];exact q7H (f k) (hok k hk));have HGo:Hid (∀p,p<netN es n->Goal (netN es n) (netB es n) p):=q8I es n h8 hNs;have HOf:Hid (Calls Tryz.prog 64 #[.slice (some ⟨b,off,none⟩) n cap] W0 (OfPost es n W0)):=by
  show Calls _ _ _ _ _;rw[hes];exact y3K b off cap n f W0 h1 h8 (by omega) hm (hr.below hb B0) hok hsum
 have HW0:Hid (W0=w.alloc (.cells #[.int .i64 0,.slice none 0 0,.slice none 0 0,.slice none 0 0] 25)):=hW0;rw[<-hes];have Hs0:Hid (W0.heap.size=w.heap.size+1):=hs0;have HN:Hid (netN es n<=96):=hNs;have hn8:(n:Int)<=8:=by omega
 clear hW0 hes hrd hNs hs0 hr hok hsum hm;go_enter Tryz.func34,Tryz.ntmps34;go_wp2_with fail;rw[<-HW0.out];refine HOf.out.mono ?_;rintro en w2 ⟨vh,vb,rfl,OH,OB,B2⟩;have HOH:Hid (OwnH W0.heap.size vh (mkL (netN es n) (netH es n)) w2/\OwnS W0.heap.size vb (mkL (netN es n) (netB es n)) w2/\Below w.heap.size w w2/\TC w.heap.size macZ w2/\w.heap.size+1<=w2.heap.size):=⟨OH,OB,B0.trans (B2.mono (by have:=Hs0.out;omega)),T0.block (B2.block _ (by have:=Hs0.out;omega)),by have:=Hs0.out;have:=B2.size;omega⟩;obtain⟨Z,hZ⟩:∃Z,Z=netV vh vb (netF es n):=⟨_,rfl⟩;rw[<-hZ];have HZZ:Hid (Z=netV vh vb (netF es n)):=hZ;have HZ:Hid (Z.length=106):=by show _=_;rw[hZ];exact q2p _ _ _
 have hone1:vh.oneCell'=true:=by obtain⟨a1,c1,e1,_⟩:=OH.at_;rw[e1];rfl
 have hone2:vb.oneCell'=true:=by obtain⟨a1,c1,e1,_⟩:=OB.at_;rw[e1];rfl
 have HOZ:Hid (Z.toArray.all (·.oneCell')=true):=by show _=true;rw[hZ];exact q4d hone1 hone2 _
 clear OH OB B2 hZ hone1 hone2 B0 T0 HOf HW0;go_wp2_with (first|(with_reducible refine gst 137 ?_;refine Stop.out ?_));refine⟨?_⟩;obtain⟨w3,hw3⟩:∃W,W=(w2.alloc (.cells netZ.toArray 137)).setCells w2.heap.size 0 Z:=⟨_,rfl⟩;have hbo:=q1o w2 netZ Z 137 (by rw[HZ.out];exact(q2p _ _ _).symm);rw[<-hw3]at hbo;obtain⟨B3,r3,s3,t3⟩:=hbo;obtain⟨OH,OB,Bw2,T2,z2⟩:=HOH.out;refine wpList_store_mid rfl 137 _ _ rfl w2.heap.size 0 Z.toArray rfl rfl (by simpa using t3) (by simpa[HZ.out]using q1U) HOZ.out ?_;rw[List.toList_toArray,<-hw3];rw[HZZ.out]at r3;obtain⟨ha,hc,ba,bc,N3⟩:=y1z r3 (OH.below B3) (OB.below B3);have Bw3:Below w.heap.size w w3:=Bw2.trans (B3.mono (by omega));have T3:=T2.block (B3.block _ (by omega));have HKi:Hid (Calls Tryz.prog 65 #[.pointer (some ⟨w2.heap.size,0,none⟩)] w3 (KindPost (Kq (netH es n) (netN es n)) w3)):=q8e w2.heap.size ha hc (netN es n) (netH es n) w3 HN.out N3.c0 N3.h;have HN3:Hid (NR w2.heap.size ha hc (netN es n) (netH es n) ba bc (netB es n) (netF es n) w3):=N3;have HW3:Hid (Below w.heap.size w w3/\TC w.heap.size macZ w3/\w2.heap.size+1<=w3.heap.size/\w.heap.size+1<=w2.heap.size):=⟨Bw3,T3,s3,z2⟩;clear hw3 OH OB Bw2 T2 t3 r3 N3 Bw3 T3 B3 HOH HOZ HZ HZZ s3 z2;go_wp2_with fail;refine HKi.out.mono ?_;rintro en w4 ⟨kf,vl,rfl,hkf,OU,B4⟩;obtain⟨Kc,hKc⟩:∃K,K=kcells kf vl:=⟨_,rfl⟩;rw[<-hKc];have HKl:Hid (Kc.length=257):=by show _=_;rw[hKc];exact q1b _ _
 obtain⟨la,lc,evl,LB4⟩:=OU.lb (fun k b hk=>y3A hk);have HK1:Hid (Kc.toArray.all (·.oneCell')=true):=by
  show _=true;rw[hKc,evl,List.all_toArray];simp[kcells,Value.oneCell']
 have HKc:Hid (Kc=kcells kf vl):=hKc;clear hKc;go_wp2_with (first|(with_reducible refine gst 142 ?_;refine Stop.out ?_));refine⟨?_⟩;obtain⟨w5,hw5⟩:∃W,W=(w4.alloc (.cells (kcells (fun _=>0) (.slice none 0 0)).toArray 142)).setCells w4.heap.size 0 Kc:=⟨_,rfl⟩;have hbo:=q1o w4 (kcells (fun _=>0) (.slice none 0 0)) Kc 142 (by rw[HKl.out,q1b]);rw[<-hw5]at hbo;obtain⟨B5,r5,s5,t5⟩:=hbo;refine wpList_store_mid rfl 142 _ _ rfl w4.heap.size 0 Kc.toArray rfl rfl (by simpa using t5) (by simpa[HKl.out]using q2H) HK1.out ?_;rw[List.toList_toArray,<-hw5];obtain⟨Bw3,T3,z3,z2⟩:=HW3.out;have z4:=B4.size;rw[HKc.out]at r5;obtain⟨rk,ck⟩:=y0A r5;rw[evl]at ck;obtain⟨m,hm⟩:∃m,m=(kdN es n).length:=⟨_,rfl⟩;have hmm:m=(reps (Kq (netH es n) (netN es n)) 256).length:=hm;rw[<-hmm]at ck;have hm2:m<=256:=by rw[hm];exact(q3M _ _).2
 have N5:=(HN3.out.below B4).below B5;have Bw5:Below w.heap.size w w5:=(Bw3.trans (B4.mono (by omega))).trans (B5.mono (by omega));have T5:=(T3.block (B4.block _ (by omega))).block (B5.block _ (by omega));have HEx:Hid (Calls Tryz.prog 66 #[.pointer (some ⟨w2.heap.size,0,none⟩),.slice la m lc] w5 (ExPost (aftN es n) (netF es n) (kdN es n) w5)):=by
  show Calls _ _ _ _ _;rw[hm];exact q8q w2.heap.size ha hc (netN es n) (netH es n) ba bc (netB es n) (netF es n) la lc (kdN es n) w5 HN.out (q3M _ _).2 N5 (LB4.below B5)
 have HW5:Hid (Below w.heap.size w w5/\TC w.heap.size macZ w5/\w4.heap.size+1<=w5.heap.size/\w.heap.size+1<=w4.heap.size/\w5.rangeAt w4.heap.size 0 (kl kf)):=⟨Bw5,T5,s5,by omega,rk⟩;have Hm:Hid (m=(kdN es n).length):=hm;have Hkf:Hid (∀b,b<256->kf b=kdF es n b):=hkf;clear hw5 r5 rk B5 s5 t5 Bw3 T3 z3 z2 z4 N5 Bw5 T5 hm hmm hkf evl OU LB4 B4 HK1 HKl HKc HKi HN3 HW3;go_wp2_with fail;refine HEx.out.mono ?_;rintro en w6 ⟨B6,hcase⟩;obtain⟨Bw5,T5,z5,z4,rk⟩:=HW5.out;have T6:=T5.block (B6.block _ (by omega));have Bw6:Below w.heap.size w w6:=Bw5.trans (B6.mono Bw5.size);rcases hcase with ⟨vs,vt,l,t,rfl,hE,OS,OL⟩|⟨rfl,hbad⟩
 ·rw[<-Hm.out];go_wp2_with (first|(with_reducible refine gst 146 ?_;refine Stop.out ?_));refine⟨?_⟩;obtain⟨w7,hw7⟩:∃W,W=(w6.alloc (.cells grZ.toArray 146)).setCells w6.heap.size 0 [.int .i64 m,vs,vt]:=⟨_,rfl⟩;have hbo:=q1o w6 grZ [.int .i64 m,vs,vt] 146 rfl;rw[<-hw7]at hbo;obtain⟨B7,r7,s7,t7⟩:=hbo;obtain⟨_,_,evs,_⟩:=OS.at_;obtain⟨_,_,evt,_⟩:=OL.il;refine wpList_store_mid rfl 146 _ _ rfl w6.heap.size 0 #[.int .i64 m,vs,vt] rfl rfl t7 q1s (by simp[evs,evt,Value.oneCell']) ?_;rw[List.toList_toArray];have hw7':w7=(w6.alloc (.cells #[.int .i64 0,.slice none 0 0,.slice none 0 0] 146)).setCells w6.heap.size 0 [.int .i64 m,vs,vt]:=hw7;rw[<-hw7'];have z6:=B6.size;have T7:=T6.block (B7.block _ (by omega));have Bw7:Below w.heap.size w w7:=Bw6.trans (B7.mono Bw6.size);rw[Hm.out]at r7;obtain⟨ta,tc,sa,sc,G7,S7⟩:=q9E (q3M _ _).1 hE (OS.below B7) (OL.below B7) r7;have rk7:w7.rangeAt w4.heap.size 0 (kl kf):=fun j v hv=>by
   have h:=rk j v hv;rw[B7.cell (p:=⟨w4.heap.size,0+j,none⟩) (by show w4.heap.size<w6.heap.size;omega),B6.cell (p:=⟨w4.heap.size,0+j,none⟩) (by show w4.heap.size<w5.heap.size;omega)];exact h
  obtain⟨A,hA⟩:∃A,A=autOf l t (kdN es n).length:=⟨_,rfl⟩;have hE':=hE.size;have hAs:Aut.Small A:=by rw[hA];exact⟨hE'.2.1,(q3M _ _).2⟩
  have hGd:A.Good:=by rw[hA];exact q5C HL.out HGo.out (q8N _ _) hE
  have hAN:A.N=l.length:=by rw[hA];rfl
  have hAK:A.K=(kdN es n).length:=by rw[hA];rfl
  have hvd:∀i,i<A.N->A.vd i=vdF ((fun i r=>(l.getD i noB) (96+r)) i) 8 0:=fun i _=>by rw[hA];rfl
  rw[show autOf l t (kdL (netH es n) (netN es n)).length=A from hA.symm,<-hAN]at G7;rw[<-hAN]at S7;obtain⟨rl,hrl⟩:∃rl:Nat->Nat->Bool,rl=fun i r=>(l.getD i noB) (96+r):=⟨_,rfl⟩
  rw[<-hrl]at S7 hvd;have hkK:∀b,b<256->0<=kf b/\kf b<A.K:=fun b hb=>by
   have h1:=idx_lt (q3D (netH es n) (netN es n) 256) hb;rw[Hkf.out b hb,hAK];have h2:kdF es n b=(idx (Kq (netH es n) (netN es n)) b:Int):=rfl;have h3:(kdN es n).length=cnt (Kq (netH es n) (netN es n)) 256:=rfl;omega
  have HAl:Hid (Calls Tryz.prog 67 #[.pointer (some ⟨w6.heap.size,0,none⟩)] w7 (SortPost (alB A) A.N w7)):=y1b w6.heap.size A ta tc sa sc rl w7 hAs hGd (by omega) G7 S7 hvd;have HMo:Hid (∀(vo vf:Value) (b1 b2:Nat) (W:World),Below w7.heap.size w7 W->OwnL b1 vo (ofL (alB A) A.N) W->OwnL b2 vf (firstL (alB A) A.N) W->Calls Tryz.prog 68 #[.pointer (some ⟨w6.heap.size,0,none⟩),.pointer (some ⟨w4.heap.size,0,none⟩),.agg #[vo,vf]] W (MachPost A (alB A) kf W)):=fun vo vf b1 b2 W hW ho hf=>
   q6n w6.heap.size A ta tc sa sc rl w4.heap.size kf (alB A) b1 b2 vo vf W hAs hGd.rng (G7.below hW) (S7.below hW) hvd (fun j v hv=>by
    rw[hW.cell (p:=⟨w4.heap.size,0+j,none⟩) (by show w4.heap.size<w7.heap.size;omega)];exact rk7 j v hv) hkK ho hf
  have HAx:Hid (A=autOf l t (kdN es n).length/\Exp (aftN es n) (netF es n) (kdN es n) l.length 0 l t):=⟨hA,hE⟩;have HW7:Hid (Below w.heap.size w w7/\TC w.heap.size macZ w7/\w.heap.size+1<=w7.heap.size):=⟨Bw7,T7,by omega⟩;have HAN:Hid (A.N<=200):=hAs.n;clear hw7 hw7' T7 Bw7 T6 Bw6 T5 Bw5 rk rk7 B7 r7 t7 hA hE' hAs hGd hAN hAK hvd G7 S7 hrl hkK hE OS OL evs evt z6 s7 B6 z5 z4 HW5 HEx;go_wp2_with fail;refine HAl.out.mono ?_;rintro en w8 ⟨vo,vf,rfl,Oo,Of,hne,B8⟩;obtain⟨fa,fc,evf,_⟩:=Of.il;rw[q0u]at evf;obtain⟨C,hC⟩:∃C,C=cnt (alB A) A.N:=⟨_,rfl⟩;rw[<-hC]at evf;have Hone:Hid ((#[vo,vf]:Array Value).all (·.oneCell')=true):=by
   obtain⟨_,_,evo,_⟩:=Oo.il;show _=true;simp[evo,evf,Value.oneCell']
  have Hevf:Hid (vf=.slice fa C fc):=evf;have HC:Hid (C=cnt (alB A) A.N):=hC;clear evf hC;go_wp2_with (first|(with_reducible refine gst 150 ?_;refine Stop.out ?_));refine⟨?_⟩;obtain⟨w9,hw9⟩:∃W,W=(w8.alloc (.cells [.slice none 0 0,.slice none 0 0].toArray 150)).setCells w8.heap.size 0 [vo,vf]:=⟨_,rfl⟩;have hbo:=q1o w8 [.slice none 0 0,.slice none 0 0] [vo,vf] 150 rfl;rw[<-hw9]at hbo;obtain⟨B9,r9,s9,t9⟩:=hbo;refine wpList_store_mid rfl 150 _ _ rfl w8.heap.size 0 #[vo,vf] rfl rfl t9 q1m Hone.out ?_;rw[List.toList_toArray];have hw9':w9=(w8.alloc (.cells #[.slice none 0 0,.slice none 0 0] 150)).setCells w8.heap.size 0 [vo,vf]:=hw9;rw[<-hw9'];obtain⟨Bw7,T7,z7⟩:=HW7.out;have z8:=B8.size;have Bw9:Below w.heap.size w w9:=(Bw7.trans (B8.mono (by omega))).trans (B9.mono (by omega));have T9:=(T7.block (B8.block _ (by omega))).block (B9.block _ (by omega));have cf:w9.cell? ⟨w8.heap.size,1,none⟩=some (.slice fa C fc):=by rw[<-Hevf.out];simpa using r9 1 _ rfl
  have HMo1:Hid (Calls Tryz.prog 68 #[.pointer (some ⟨w6.heap.size,0,none⟩),.pointer (some ⟨w4.heap.size,0,none⟩),.agg #[vo,vf]] w9 (MachPost A (alB A) kf w9)):=HMo.out vo vf _ _ w9 (B8.trans (B9.mono z8)) (Oo.below B9) (Of.below B9);have hC2:(C:Int)<=200:=by have h1:=cnt_le (alB A) A.N;have h2:=HAN.out;have h3:=HC.out;omega
  have HW9:Hid (Below w.heap.size w w9/\TC w.heap.size macZ w9/\w.heap.size+1<=w9.heap.size):=⟨Bw9,T9,by omega⟩;clear hw9 hw9' Oo Of hne B8 B9 s9 t9 Hevf Hone Bw7 T7 z7 z8 Bw9 T9 HW7 HMo HAl;by_cases hgt:96<C
  ·have hgt':(C:Int) > 96:=by omega
   obtain⟨Bw9,T9,z9⟩:=HW9.out;obtain⟨tz,BX,hfin,_⟩:=q1e (.int .i64 0) (.slice none 0 0) (.slice none 0 0) (.slice none 0 0) T9 Bw9;obtain⟨WX,hWX⟩:∃W,W=w9.setCells w.heap.size 0 [.int .i64 0,.slice none 0 0,.slice none 0 0,.slice none 0 0]:=⟨_,rfl⟩;rw[<-hWX]at BX hfin;have HWX:Hid (WX=w9.setCells w.heap.size 0 [.int .i64 0,.slice none 0 0,.slice none 0 0,.slice none 0 0]):=hWX;have Hfin:Hid ((loadVar 25 ⟨w.heap.size,0,none⟩).run Tryz.prog WX=.ok (.agg #[.int .i64 0,.slice none 0 0,.slice none 0 0,.slice none 0 0]) WX):=hfin;clear hWX hfin T9 Bw9 z9 r9;go_wp2_with (first|(with_reducible refine gst 25 ?_;refine Stop.out ?_));refine⟨?_⟩;refine wpList_store_mid rfl 25 _ _ rfl w.heap.size 0 #[.int .i64 0,.slice none 0 0,.slice none 0 0,.slice none 0 0] rfl rfl tz q0D (by simp[Value.oneCell']) ?_;rw[List.toList_toArray,<-HWX.out];go_wp2_with fail;refine bodyPost_ret (v:=.tuple #[.agg #[.int .i64 0,.slice none 0 0,.slice none 0 0,.slice none 0 0],.int .i64 9]) (q0L Tryz.results34 rfl Hfin.out rfl) rfl ?_;exact⟨BX,Or.inr ⟨l,t,A,HAx.out.1,HAx.out.2,Or.inl ⟨by rw[<-HC.out];exact hgt,rfl⟩⟩⟩
  ·have hgt':¬(C:Int) > 96:=by omega
   go_wp2_with (first|(with_reducible refine gld 150 ?_;refine Stop.out ?_));refine⟨?_⟩;refine wpList_load_mid rfl 150 _ rfl w8.heap.size 0 rfl [vo,vf] _ r9 Tryz.underlying150 rfl q1m ?_
   (try simp only[psm])
   clear r9 cf;go_wp2_with fail;refine HMo1.out.mono ?_;rintro en w10 ⟨vc,vl,vn,rfl,o1,o2,o3,n1,n2,n3,B10⟩;obtain⟨_,_,e1,_⟩:=o1.il;obtain⟨_,_,e2,_⟩:=o2.il;obtain⟨_,_,e3,_⟩:=o3.il;have Hal:Hid ((#[.int .i64 0,vc,vl,vn]:Array Value).all (·.oneCell')=true):=by
    show([.int .i64 0,vc,vl,vn]:List Value).toArray.all (·.oneCell')=true;rw[List.all_toArray,e1,e2,e3];rfl
   have Hal2:Hid ((#[.int .i64 n,vc,vl,vn]:Array Value).all (·.oneCell')=true):=by
    show([.int .i64 n,vc,vl,vn]:List Value).toArray.all (·.oneCell')=true;rw[List.all_toArray,e1,e2,e3];rfl
   clear e1 e2 e3;go_wp2_with (first|(with_reducible refine gst 25 ?_;refine Stop.out ?_));refine⟨?_⟩;obtain⟨w11,hw11⟩:∃W,W=(w10.alloc (.cells macZ.toArray 25)).setCells w10.heap.size 0 [.int .i64 0,vc,vl,vn]:=⟨_,rfl⟩;have hbo:=q1o w10 macZ [.int .i64 0,vc,vl,vn] 25 rfl;have TM:TC w10.heap.size [.int .i64 0,vc,vl,vn] w11:=by rw[hw11];exact q4s hbo.2.2.2
   rw[<-hw11]at hbo;obtain⟨B11,_,s11,t11⟩:=hbo;refine wpList_store_mid rfl 25 _ _ rfl w10.heap.size 0 #[.int .i64 0,vc,vl,vn] rfl rfl t11 q0D Hal.out ?_;rw[List.toList_toArray];have hw11':w11=(w10.alloc (.cells #[.int .i64 0,.slice none 0 0,.slice none 0 0,.slice none 0 0] 25)).setCells w10.heap.size 0 [.int .i64 0,vc,vl,vn]:=hw11;rw[<-hw11'];obtain⟨Bw9,T9,z9⟩:=HW9.out;have z10:=B10.size;obtain⟨w12,hw12⟩:∃W,W=w11.setCell ⟨w10.heap.size,0,none⟩ (.int .i64 n):=⟨_,rfl⟩;have TN:TC w10.heap.size [.int .i64 n,vc,vl,vn] w12:=by rw[hw12];exact TM.set 0 (by simp) _
   have B12:Below w10.heap.size w10 w12:=by rw[hw12];exact B11.setCell (p:=⟨w10.heap.size,0,none⟩) (Nat.le_refl _) _
   have Bw12:Below w.heap.size w w12:=(Bw9.trans (B10.mono (by omega))).trans (B12.mono (by omega));have T12:=(T9.block (B10.block _ (by omega))).block (B12.block _ (by omega));obtain⟨tz,BX,hfin,hG⟩:=q1e (.int .i64 n) vc vl vn T12 Bw12;have rM:=TN.range;have cm:=(TM 0 _ rfl).1;have fm:=(TM 0 _ rfl).2;have b1:=o1.blk;have b2:=o2.blk;have b3:=o3.blk;have O1:=(o1.below B12).grown hG (fun q hq e=>by have:=Option.some.inj e;have:=(b1 q hq).1;omega);have O2:=(o2.below B12).grown hG (fun q hq e=>by have:=Option.some.inj e;have:=(b2 q hq).1;omega);have O3:=(o3.below B12).grown hG (fun q hq e=>by have:=Option.some.inj e;have:=(b3 q hq).1;omega);obtain⟨WX,hWX⟩:∃W,W=w12.setCells w.heap.size 0 [.int .i64 n,vc,vl,vn]:=⟨_,rfl⟩;rw[<-hWX]at BX hfin O1 O2 O3;have HWX:Hid (WX=w12.setCells w.heap.size 0 [.int .i64 n,vc,vl,vn]):=hWX;have HW12:Hid (w12=w11.setCell ⟨w10.heap.size,0,none⟩ (.int .i64 n)):=hw12;have Hfin:Hid ((loadVar 25 ⟨w.heap.size,0,none⟩).run Tryz.prog WX=.ok (.agg #[.int .i64 n,vc,vl,vn]) WX):=hfin;have HP:Hid (MBPost es n w (.returned (.tuple #[.agg #[.int .i64 n,vc,vl,vn],.int .i64 0])) WX):=
    ⟨BX,Or.inr ⟨l,t,A,HAx.out.1,HAx.out.2,Or.inr ⟨by rw[<-HC.out];exact hgt,vc,vl,vn,kf,rfl,Hkf.out,O1.mono (by omega),O2.mono (by omega),O3.mono (by omega),n1,n2,n3⟩⟩⟩
   clear hw11 hw11' hw12 hWX hfin hG O1 O2 O3 b1 b2 b3 o1 o2 o3 n1 n2 n3 B10 B11 B12 Bw9 T9 Bw12 T12 BX TM TN z9 z10 s11 t11;go_wp2_with (first|(with_reducible refine gld 25 ?_;refine Stop.out ?_));refine⟨?_⟩;rw[<-HW12.out];refine wpList_load_mid rfl 25 _ rfl w10.heap.size 0 rfl [.int .i64 n,vc,vl,vn] _ rM Tryz.underlying25 rfl q0D ?_
   (try simp only[psm])
   refine wpList_store_mid rfl 25 _ _ rfl w.heap.size 0 #[.int .i64 n,vc,vl,vn] rfl rfl tz q0D Hal2.out ?_;rw[List.toList_toArray,<-HWX.out];go_wp2_with fail;exact bodyPost_ret (v:=.tuple #[.agg #[.int .i64 n,vc,vl,vn],.int .i64 0]) (q0L Tryz.results34 rfl Hfin.out rfl) rfl HP.out
 ·go_wp2_with (first|(with_reducible refine gst 146 ?_;refine Stop.out ?_));refine⟨?_⟩;obtain⟨w7,hw7⟩:∃W,W=(w6.alloc (.cells grZ.toArray 146)).setCells w6.heap.size 0 grZ:=⟨_,rfl⟩;have hbo:=q1o w6 grZ grZ 146 rfl;rw[<-hw7]at hbo;obtain⟨B7,r7,s7,t7⟩:=hbo;refine wpList_store_mid rfl 146 _ _ rfl w6.heap.size 0 grZ.toArray rfl rfl t7 q1s (by simp[grZ,Value.oneCell']) ?_;rw[List.toList_toArray];have hw7':w7=(w6.alloc (.cells #[.int .i64 0,.slice none 0 0,.slice none 0 0] 146)).setCells w6.heap.size 0 grZ:=hw7;rw[<-hw7'];have T7:=T6.block (B7.block _ (by have:=B6.size;omega));have Bw7:Below w.heap.size w w7:=Bw6.trans (B7.mono Bw6.size);obtain⟨tz,BX,hfin,_⟩:=q1e (.int .i64 0) (.slice none 0 0) (.slice none 0 0) (.slice none 0 0) T7 Bw7;obtain⟨WX,hWX⟩:∃W,W=w7.setCells w.heap.size 0 [.int .i64 0,.slice none 0 0,.slice none 0 0,.slice none 0 0]:=⟨_,rfl⟩;rw[<-hWX]at BX hfin;have HWX:Hid (WX=w7.setCells w.heap.size 0 [.int .i64 0,.slice none 0 0,.slice none 0 0,.slice none 0 0]):=hWX;have Hfin:Hid ((loadVar 25 ⟨w.heap.size,0,none⟩).run Tryz.prog WX=.ok (.agg #[.int .i64 0,.slice none 0 0,.slice none 0 0,.slice none 0 0]) WX):=hfin;clear hw7 hw7' hWX hfin T7 Bw7 T6 Bw6 T5 Bw5 rk B7 r7 t7;go_wp2_with (first|(with_reducible refine gst 25 ?_;refine Stop.out ?_));refine⟨?_⟩;refine wpList_store_mid rfl 25 _ _ rfl w.heap.size 0 #[.int .i64 0,.slice none 0 0,.slice none 0 0,.slice none 0 0] rfl rfl tz q0D (by simp[Value.oneCell']) ?_;rw[List.toList_toArray,<-HWX.out];go_wp2_with fail;refine bodyPost_ret (v:=.tuple #[.agg #[.int .i64 0,.slice none 0 0,.slice none 0 0,.slice none 0 0],.int .i64 8]) (q0L Tryz.results34 rfl Hfin.out rfl) rfl ?_;exact⟨BX,Or.inl ⟨rfl,hbad⟩⟩
end Go.Proofs.YtoaaklhpmhjhkaaGreat
namespace Go.Proofs.YtoaaklhpmhjhkaaGreat
open Go.RowKit
open Bm
theorem q1Z (w:World):(zeroValue 118).run Tryz.prog w=.ok (.agg #[.int .i64 0,.slice none 0 0,.slice none 0 0,.int .i64 0,.int .i64 0]) w:=by kernel_rfl
theorem q1y:(Tryz.prog.info? 118).map (·.size)=some 5:=by kernel_rfl
def nodZ:List Value:=[.int .i64 0,.slice none 0 0,.slice none 0 0,.int .i64 0,.int .i64 0]
def ndC (d:Nd) (vin:Value) (ka:Option Addr) (kc:Nat):List Value:=[.int .i64 d.kind,vin,.slice ka d.kids.length kc,.int .i64 d.up,.int .i64 d.at_]
def TR (tb:Nat) (T:Nat->Nd) (N:Nat) (w:World):Prop:=
 ∃na nc,w.cell? ⟨tb,0,none⟩=some (.slice na N nc)/\∀i,i<N->∃nb off vin ka kc,na=some ⟨nb,off,none⟩/\w.rangeAt nb (off+i*5) (ndC (T i) vin ka kc)/\vin.oneCell'=true/\IL ka (fun k=>(((T i).kids.getD k 0:Nat):Int)) (T i).kids.length w/\((T i).kind=0->∃ia ic,vin=.slice ia 256 ic/\BR ia (T i).inn 256 w)
variable {kids : List Nat}{xs : List Value}{M N P R b base gb n size tb : Nat}{Ns nd ti : Nat → Nat}{T : Nat → Nd}{S S' S1 S2 : Nat → Prop}{v v1 v2 vk vr : Value}{w w' w1 w2 : World}
theorem TR.below (h:TR tb T N w) (hW:Below w.heap.size w w'):TR tb T N w':=by
 obtain⟨na,nc,c,h⟩:=h;refine⟨na,nc,by rw[hW.cell (p:=⟨tb,0,none⟩) (World.block_lt_of_cell? w _ c)];exact c,fun i hi=>?_⟩;obtain⟨nb,off,vin,ka,kc,e,r,o,il,hk⟩:=h i hi;refine⟨nb,off,vin,ka,kc,e,fun j v hv=>?_,o,il.below hW,fun hz=>?_⟩
 ·have:=r j v hv;rw[hW.cell (p:=⟨nb,off+i*5+j,none⟩) (World.block_lt_of_cell? w _ this)];exact this
 ·obtain⟨ia,ic,e2,br⟩:=hk hz;exact⟨ia,ic,e2,br.below hW⟩
theorem q1R (tb:Nat) (T:Nat->Nd) (N:Nat) (hN:N<=1000000) (hw:Wf T N) (hk4:∀i,i<N->(T i).kind<=4) (nl:Nat->Bool) (h0:∀n,n<N->(T n).kind=0->nl n=false) (h1:∀n,n<N->(T n).kind=1\/(T n).kind=4->nl n=(T n).kids.all nl) (h2:∀n,n<N->(T n).kind=2->nl n=(T n).kids.any nl) (h3:∀n,n<N->(T n).kind=3->nl n=true):
  ∀(f n:Nat) (w:World),n<f->n<N->TR tb T N w->(∀i,i<N->(T i).kids.length<=1000000)->Calls Tryz.prog 115 #[.pointer (some ⟨tb,0,none⟩),.int .i64 n] w fun e w'=>e=.returned (.bool (nl n))/\Below w.heap.size w w'
 |0,n,w,hf,_,_,_=>by omega
 |f+1,n,w,hf,hn,hT,hkl=>by
  have hz:=q1Z;have HI:Hid (∀(k:Nat) (w':World),k∈(T n).kids->Below w.heap.size w w'->Calls Tryz.prog 115 #[.pointer (some ⟨tb,0,none⟩),.int .i64 k] w' fun e w''=>e=.returned (.bool (nl k))/\Below w'.heap.size w' w''):=fun k w' hk hW=>
   q1R tb T N hN hw hk4 nl h0 h1 h2 h3 f k w' (by have:=hw n hn k hk;omega) (by have:=hw n hn k hk;omega) (hT.below hW) hkl
  obtain⟨na,nc,c0,hnd⟩:=hT;obtain⟨nb,off,vin,ka,kc,e,r,o,il,_⟩:=hnd n hn;subst e;have hn':(n:Int)<N:=by omega
  have hN':(N:Int)<=1000000:=by omega
  have hkn:=hkl n hn;have hq4:=hk4 n hn;obtain⟨d,hd⟩:=nam (T n);have g0:=h0 n hn;have g1:=h1 n hn;have g2:=h2 n hn;have g3:=h3 n hn;rw[<-hd]at r il hkn g0 g1 g2 g3 HI hq4;obtain⟨m,hm⟩:=nam d.kids.length;have hmb:(m:Int)<=1000000:=by omega
  have Hm:=hyd hm;have HG:=hyd4 g0 g1 g2 g3;have HIL:Hid (∀w',Below w.heap.size w w'->IL ka (fun k=>((d.kids.getD k 0:Nat):Int)) d.kids.length w'):=fun w' h=>il.below h
  clear hnd hd g0 g1 g2 g3 h0 h1 h2 h3 il hkl hk4 hw;go_enter Tryz.func115,Tryz.ntmps115;go_wp2_with (first|(with_reducible refine gld 118 ?_;refine Stop.out ?_));refine⟨?_⟩;refine wpList_load_mid rfl 118 _ rfl nb (off+n*5) rfl (ndC d vin ka kc) _ r Tryz.underlying118 rfl q1y ?_
  (try simp only[psm])
  go_wp2_with (first|(with_reducible refine gst 118 ?_;refine Stop.out ?_));refine⟨?_⟩;obtain⟨w2,hw2⟩:=nam ((w.alloc (.cells nodZ.toArray 118)).setCells w.heap.size 0 (ndC d vin ka kc));have hbo:=q1o w nodZ (ndC d vin ka kc) 118 rfl;have T2:TC w.heap.size (ndC d vin ka kc) w2:=by rw[hw2];exact q4s hbo.2.2.2
  rw[<-hw2]at hbo;obtain⟨B2,_,s2,t2⟩:=hbo;refine wpList_store_mid rfl 118 _ _ rfl w.heap.size 0 (ndC d vin ka kc).toArray rfl rfl t2 q1y (by simp only[ndC,List.all_toArray,List.all_cons,o];rfl) ?_;rw[List.toList_toArray];have hw2':w2=(w.alloc (.cells #[.int .i64 0,.slice none 0 0,.slice none 0 0,.int .i64 0,.int .i64 0] 118)).setCells w.heap.size 0 (ndC d vin ka kc):=hw2;rw[<-hw2'];have ck:=(T2 0 _ rfl).1;have cK:=(T2 2 _ rfl).1;rw[<-Hm.out]at cK;clear hw2 hw2' t2 r;by_cases e0:d.kind=0
  ·have q0:((d.kind:Int)==0)=true:=by simp[e0]
   have HR:=hyd (HG.out.1 e0);clear T2;go_wp2_with fail;go_ret;exact⟨q0v HR.out.symm,B2⟩
  ·have q0:((d.kind:Int)==0)=false:=by simp;omega
   by_cases e3:d.kind=3
   ·have q3:((d.kind:Int)==3)=true:=by simp[e3]
    have HR:=hyd (HG.out.2.2.2 e3);clear T2;go_wp2_with fail;go_ret;exact⟨q0v HR.out.symm,B2⟩
   ·have q3:((d.kind:Int)==3)=false:=by simp;omega
    have HB2:=hyd2 B2 T2;clear T2;go_wp2_with fail
    go_loopw [6,7,8] (fun a s x w'=>∃i:Nat,i<=m/\x=.int .i64 i/\a=.bool ((d.kids.take i).all nl)/\s=.bool ((d.kids.take i).any nl)/\Below w.heap.size w w'/\TC w.heap.size (ndC d vin ka kc) w'/\w.heap.size+1<=w'.heap.size) (fun _ _ x _=>m-(intOf x).toNat)
    case atStart=>exact⟨0,by omega,rfl,by simp,by simp,HB2.out.1,HB2.out.2,s2⟩
    case round=>
     clear ck cK B2 HB2 s2;obtain⟨i,hi,rfl,rfl,rfl,B,T2,sz⟩:=hrel;have ck:=(T2 0 _ rfl).1;have cK:=(T2 2 _ rfl).1;rw[<-Hm.out]at cK;by_cases hlt:i<m
     ·have hlt':(i:Int)<m:=by omega
      obtain⟨k,hk⟩:∃k,d.kids[i]?=some k:=⟨d.kids[i]'(by have:=Hm.out;omega),List.getElem?_eq_getElem _⟩;obtain⟨g,og,eg,cg⟩:=HIL.out wr B i (by have:=Hm.out;omega);subst eg;simp only[List.getD_eq_getElem?_getD,hk,Option.getD_some]at cg;have HCk:=hyd (HI.out k wr (List.mem_of_getElem? hk) B);have Hall:Hid ((d.kids.take (i+1)).all nl=((d.kids.take i).all nl&&nl k)):=by
       show _=_;rw[List.take_add_one,hk];simp
      have Hany:Hid ((d.kids.take (i+1)).any nl=((d.kids.take i).any nl || nl k)):=by
       show _=_;rw[List.take_add_one,hk];simp
      have HT:=hyd T2;obtain⟨X,hX⟩:=nam ((d.kids.take i).all nl);obtain⟨Y,hY⟩:=nam ((d.kids.take i).any nl);obtain⟨V,hV⟩:=nam (nl k);rw[<-hX,<-hY];rw[<-hX,<-hV]at Hall;rw[<-hY,<-hV]at Hany;rw[<-hV]at HCk;clear T2 hk hX hY hV;go_wp2_with fail;refine HCk.out.mono ?_;rintro e w3 ⟨rfl,B3⟩;have T3:=HT.out.block (B3.block _ (by omega));have Bw3:Below w.heap.size w w3:=B.trans (B3.mono (by omega));have s3:w.heap.size+1<=w3.heap.size:=by have:=B3.size;omega
      clear HCk ck cK cg B3 HT;cases X<;>cases Y<;>cases V<;>(go_wp2_with fail;go_roundw;(case rel=>exact⟨i+1,by omega,by go_num,by rw[Hall.out];rfl,by rw[Hany.out];rfl,Bw3,T3,s3⟩);(case measure=>simp[intOf];omega))
     ·have hge:¬(i:Int)<m:=by omega
      have him:i=m:=by omega
      subst him;have ht:d.kids.take i=d.kids:=by rw[Hm.out,List.take_length]
      rw[ht];by_cases e2:d.kind=2
      ·have q2:((d.kind:Int)==2)=true:=by simp[e2]
       have HR:=hyd (HG.out.2.2.1 e2);clear T2 ht;go_wp2_with fail;go_ret;exact⟨q0v HR.out.symm,B⟩
      ·have q2:((d.kind:Int)==2)=false:=by simp;omega
       have HR:=hyd (HG.out.2.1 (by omega));clear T2 ht;go_wp2_with fail;go_ret;exact⟨q0v HR.out.symm,B⟩
theorem q8Z (tb:Nat) (T:Nat->Nd) (N n:Nat) (w:World) (hN:N<=1000000) (hn:n<N) (hT:TR tb T N w):
  Calls Tryz.prog 201 #[.pointer (some ⟨tb,0,none⟩),.int .i64 n] w fun e w'=>e=.returned (.bool (decide ((T n).kind=1/\(T n).kids=[])))/\w'=w:=by
 obtain⟨na,nc,c0,hnd⟩:=hT;obtain⟨nb,off,vin,ka,kc,e,r,_,_,_⟩:=hnd n hn;subst e;have d0:=r 0 _ rfl;have d2:=r 2 _ rfl;have hn':(n:Int)<N:=by omega
 obtain⟨d,hd⟩:=nam (T n);rw[<-hd]at d0 d2 ⊢;simp only[Nat.add_zero]at d0;clear hnd r hd;by_cases h1:d.kind=1
 ·have q1:((d.kind:Int)==1)=true:=by simp[h1]
  by_cases h2:d.kids=[]
  ·have q2:((d.kids.length:Int)==0)=true:=by simp[h2]
   have HR:Hid (decide (d.kind=1/\d.kids=[])=true):=by show _=_;simp[h1,h2]
   clear h1 h2;go_enter Tryz.func201,Tryz.ntmps201;go_wp2_with fail;go_ret;exact⟨q0v HR.out.symm,rfl⟩
  ·have q2:((d.kids.length:Int)==0)=false:=by
    have:d.kids.length≠0:=fun e=>h2 (List.eq_nil_of_length_eq_zero e)
    simp;exact h2
   have HR:Hid (decide (d.kind=1/\d.kids=[])=false):=by show _=_;simp[h2]
   clear h1 h2;go_enter Tryz.func201,Tryz.ntmps201;go_wp2_with fail;go_ret;exact⟨q0v HR.out.symm,rfl⟩
 ·have q1:((d.kind:Int)==1)=false:=by simp;omega
  have HR:Hid (decide (d.kind=1/\d.kids=[])=false):=by show _=_;simp[h1]
  clear h1;go_enter Tryz.func201,Tryz.ntmps201;go_wp2_with fail;go_ret;exact⟨q0v HR.out.symm,rfl⟩
def flatN (N:Nat) (D:Nat->List Value):List Value:=(List.range N).flatMap D
theorem q2f (N:Nat) (D:Nat->List Value):flatN (N+1) D=flatN N D++D N:=by simp[flatN,List.range_succ]
theorem q2X {D E:Nat->List Value} (h:∀i,i<N->D i=E i):flatN N D=flatN N E:=by
 induction N with
 |zero=>rfl
 |succ N ih=>rw[q2f,q2f,ih (fun i hi=>h i (by omega)),h N (by omega)]
theorem q2g {D:Nat->List Value} (h:∀i,(D i).length=5):(flatN N D).length=N*5:=by
 induction N with
 |zero=>rfl
 |succ N ih=>rw[q2f,List.length_append,ih,h];omega
theorem q2q {D:Nat->List Value} (h:∀i,(D i).length=5) (i j:Nat) (hi:i<N) (hj:j<5):(flatN N D)[i*5+j]?=(D i)[j]?:=by
 induction N with
 |zero=>omega
 |succ N ih=>
  rw[q2f];by_cases e:i<N
  ·rw[List.getElem?_append_left (by rw[q2g h];omega)];exact ih e
  ·have:i=N:=by omega
   subst this;rw[List.getElem?_append_right (by rw[q2g h];omega),q2g h,Nat.add_sub_cancel_left]
theorem q7u {D:Nat->List Value} (h:∀i,(D i).length=5) (k j:Nat) (_hk:k<N) (hj:j<5) (u:Value):(flatN N D).set (k*5+j) u=flatN N (fun i=>if i=k then (D k).set j u else D i):=by
 have h':∀i,((fun i=>if i=k then (D k).set j u else D i) i).length=5:=fun i=>by
  by_cases e:i=k
  ·simp[e,h]
  ·simp[e,h]
 refine List.ext_getElem? (fun x=>?_);rcases Nat.lt_or_ge x (N*5)with hx|hx
 ·have hq:x/5<N:=Nat.div_lt_of_lt_mul (by omega);have hr:=Nat.mod_lt x (show 0<5 by omega);have hd:x/5*5+x%5=x:=by have:=Nat.div_add_mod x 5;omega
  have a1:=q2q h (x/5) (x%5) hq hr;have a2:=q2q h' (x/5) (x%5) hq hr;rw[hd]at a1 a2;rw[a2];by_cases e:x=k*5+j
  ·have e1:x/5=k:=by omega
   have e2:x%5=j:=by omega
   rw[e,List.getElem?_set_self (by rw[q2g h];omega)];rw[<-e,e1,e2];simp only[if_true];rw[List.getElem?_set_self (by rw[h];omega)]
  ·rw[List.getElem?_set_ne (fun q=>e q.symm),a1];by_cases e1:x/5=k
   ·simp only[e1,if_true];rw[List.getElem?_set_ne (fun q=>e (by omega))]
   ·simp only[e1,if_false]
 ·rw[List.getElem?_eq_none (by simp[q2g h];omega),List.getElem?_eq_none (by rw[q2g h'];omega)]
structure Lie where
 vin:Nat->Value
 ka:Nat->Option Addr
 kc:Nat->Nat
def ndL (T:Nat->Nd) (m:Lie) (i:Nat):List Value:=ndC (T i) (m.vin i) (m.ka i) (m.kc i)
theorem q2V (T:Nat->Nd) (m:Lie) (i:Nat):(ndL T m i).length=5:=rfl
def AgX (S:Nat->Prop) (w w':World):Prop:=∀k,S k->w'.heap[k]?=w.heap[k]?
theorem AgX.refl (S:Nat->Prop) (w:World):AgX S w w:=fun _ _=>rfl
theorem AgX.trans (a:AgX S w w1) (b:AgX S w1 w2):AgX S w w2:=fun k hk=>(b k hk).trans (a k hk)
structure TF (tb:Nat) (v v':Value) (S S':Nat->Prop) (w w':World):Prop where
 b:Below tb w w'
 k:∀k,k<w.heap.size->k≠tb->v.ownBlock≠some k->w'.heap[k]?=w.heap[k]?
 o:∀k,v'.ownBlock=some k->v.ownBlock=some k\/w.heap.size<=k
 s:∀k,S' k->S k\/w.heap.size<=k
theorem TF.of (v:Value) (S:Nat->Prop) {w w':World} (hb:tb<=w.heap.size) (h:Below w.heap.size w w'):TF tb v v S S w w':=⟨h.mono hb,fun k hk _ _=>h.block k hk,fun _ h=>Or.inl h,fun _ h=>Or.inl h⟩
theorem TF.trans (a:TF tb v v1 S S1 w w1) (b:TF tb v1 v2 S1 S2 w1 w2):TF tb v v2 S S2 w w2:=by
 have hs:=a.b.size;refine⟨a.b.trans b.b,fun k hk h1 h2=>?_,fun k hk=>?_,fun k hk=>?_⟩
 ·rw[b.k k (by omega) h1 (fun e=>?_),a.k k hk h1 h2];rcases a.o k e with h|h
  ·exact h2 h
  ·omega
 ·rcases b.o k hk with h|h
  ·exact a.o k h
  ·exact Or.inr (by omega)
 ·rcases b.s k hk with h|h
  ·exact a.s k h
  ·exact Or.inr (by omega)
structure LieOK (S:Nat->Prop) (T:Nat->Nd) (m:Lie) (N M:Nat) (w:World):Prop where
 o:∀i,i<N->(m.vin i).oneCell'=true
 k:∀i,i<N->∀w',AgX S w w'->IL (m.ka i) (fun k=>(((T i).kids.getD k 0:Nat):Int)) (T i).kids.length w'
 i:∀i,i<N->i<M->(T i).kind=0->∃ia ic,m.vin i=.slice ia 256 ic/\∀w',AgX S w w'->BR ia (T i).inn 256 w'
theorem LieOK.move {m:Lie} (h:LieOK S T m N M w) (f:AgX S w w') (hS:∀k,S k->S' k):LieOK S' T m N M w':=
 ⟨h.o,fun i hi w2 h2=>h.k i hi w2 (f.trans (fun k hk=>h2 k (hS k hk))),fun i hi hm h0=>by
  obtain⟨ia,ic,e,hb⟩:=h.i i hi hm h0;exact⟨ia,ic,e,fun w2 h2=>hb w2 (f.trans (fun k hk=>h2 k (hS k hk)))⟩⟩
variable {T' : Nat → Nd}
theorem LieOK.congr {m:Lie} (h:LieOK S T m N M w) (e:∀i,i<N->(T' i).kind=(T i).kind/\(T' i).kids=(T i).kids/\(T' i).inn=(T i).inn):LieOK S T' m N M w:=
 ⟨h.o,fun i hi w2 h2=>by rw[(e i hi).2.1];exact h.k i hi w2 h2,fun i hi hm h0=>by rw[(e i hi).2.2];exact h.i i hi hm (by rw[<-(e i hi).1];exact h0)⟩
structure TW (tb base:Nat) (T:Nat->Nd) (N M:Nat) (v vr:Value) (S:Nat->Prop) (w:World):Prop where
 c:TC tb [v,vr] w
 o:∃m:Lie,w.ownsRow base 118 5 v N (flatN N (ndL T m))/\LieOK S T m N M w
 s:∀k,S k->k<w.heap.size/\k≠tb/\v.ownBlock≠some k
theorem TW.blk (h:TW tb base T N M v vr S w):∀k,v.ownBlock=some k->base<=k/\k<w.heap.size:=by
 obtain⟨m,h1,_⟩:=h.o;exact h1.lt
theorem q0R {e:TypeId} (h:w.ownsRow base e size v n xs) (hk:∀k,v.ownBlock=some k->w'.heap[k]?=w.heap[k]?):w'.ownsRow base e size v n xs:=by
 refine⟨h.1,?_⟩;rcases h.2 with h0|⟨g,cap,cur,rfl,h1,h2,h3⟩
 ·exact Or.inl h0
 ·exact Or.inr ⟨g,cap,cur,rfl,h1,by rw[hk g rfl];exact h2,h3⟩
theorem TW.keep (h:TW tb base T N M v vr S w) (hs:w.heap.size<=w'.heap.size) (hb:∀k,k=tb\/v.ownBlock=some k\/S k->w'.heap[k]?=w.heap[k]?):TW tb base T N M v vr S w':=by
 obtain⟨m,h1,h2⟩:=h.o;exact⟨h.c.block (hb tb (Or.inl rfl)),⟨m,q0R h1 (fun k hk=>hb k (Or.inr (Or.inl hk))),h2.move (fun k hk=>hb k (Or.inr (Or.inr hk))) (fun _ h=>h)⟩,fun k hk=>⟨by have:=(h.s k hk).1;omega,(h.s k hk).2⟩⟩
theorem TW.below (h:TW tb base T N M v vr S w) (hW:Below w.heap.size w w'):TW tb base T N M v vr S w':=
 h.keep hW.size (fun k hk=>hW.block k (by
  rcases hk with h1|h1|h1
  ·rw[h1];exact h.c.lt
  ·exact(h.blk k h1).2
  ·exact(h.s k h1).1))
theorem TW.tr (h:TW tb base T N M v vr S w) (hM:N<=M):TR tb T N w:=by
 obtain⟨m,h1,h2⟩:=h.o;have c0:=(h.c 0 _ rfl).1;rcases h1.2 with ⟨rfl,h0⟩|⟨g,cap,cur,rfl,_⟩
 ·subst h0;exact⟨none,0,c0,fun i hi=>by omega⟩
 ·refine⟨some ⟨g,0,none⟩,cap,c0,fun i hi=>⟨g,0,m.vin i,m.ka i,m.kc i,rfl,fun j u hu=>?_,h2.o i hi,h2.k i hi w (AgX.refl _ _),fun hz=>?_⟩⟩
  ·have hj:j<5:=by have:=(List.getElem?_eq_some_iff.1 hu).1;exact this
   have hx:=h1.cells (g:=g) rfl (i*5+j) u (by rw[q2q (q2V T m) i j hi hj];exact hu);rw[Addr.add_lit,Nat.zero_add]at hx;rw[Nat.zero_add];exact hx
  ·obtain⟨ia,ic,e,hb⟩:=h2.i i hi (by omega) hz;exact⟨ia,ic,e,hb w (AgX.refl _ _)⟩
theorem TW.more (h:TW tb base T (N+1) N v vr S w) (hz:(T N).kind≠0):TW tb base T (N+1) (N+1) v vr S w:=by
 obtain⟨m,h1,h2⟩:=h.o;refine⟨h.c,⟨m,h1,h2.o,h2.k,fun i hi _ h0=>h2.i i hi ?_ h0⟩,h.s⟩;rcases Nat.lt_or_ge i N with h|h
 ·exact h
 ·have:i=N:=by omega
  rw[this]at h0;exact absurd h0 hz
theorem TW.new (tb base:Nat) (vr:Value) (w:World) (hc:TC tb [.slice none 0 0,vr] w) (T:Nat->Nd):TW tb base T 0 0 (.slice none 0 0) vr (fun _=>False) w:=
 ⟨hc,⟨⟨fun _=>.int .i64 0,fun _=>none,fun _=>0⟩,⟨rfl,Or.inl ⟨rfl,rfl⟩⟩,fun i hi=>by omega,fun i hi=>by omega,fun i hi=>by omega⟩,fun k h=>h.elim⟩
def KiL (P:Nat->Prop) (vk:Value) (kids:List Nat) (w:World):Prop:=∃ka kc,vk=.slice ka kids.length kc/\∀w',AgX P w w'->IL ka (fun k=>((kids.getD k 0:Nat):Int)) kids.length w'
theorem KiL.nil (w:World):KiL (fun _=>False) (.slice none 0 0) [] w:=⟨none,0,rfl,fun w' _ i hi=>by simp at hi⟩
theorem q3r (kids:List Nat) (k:Nat):(kids.map (fun x:Nat=>(x:Int))).getD k 0=((kids.getD k 0:Nat):Int):=by
 simp only[List.getD_eq_getElem?_getD,List.getElem?_map];cases kids[k]?<;>rfl
theorem KiL.of (h:OwnL b vk (kids.map (fun x:Nat=>(x:Int))) w):KiL (fun k=>vk.ownBlock=some k) vk kids w:=by
 obtain⟨ad,cap,e,il⟩:=h.il;rw[List.length_map]at e;refine⟨ad,cap,e,fun w' hS i hi=>?_⟩;have h':=h.keep (fun k hk=>hS k hk);obtain⟨ad',cap',e',il'⟩:=h'.il;rw[e,List.length_map]at e';cases e';obtain⟨g,o,a1,a2⟩:=il' i (by rw[List.length_map];exact hi);refine⟨g,o,a1,?_⟩;rw[a2];simp only[q3r]
def GL (gb P R:Nat) (w:World):Prop:=(∃a c,w.cell? ⟨gb,0,none⟩=some (.slice a R c))/\∃a c,w.cell? ⟨gb,1,none⟩=some (.slice a P c)
theorem q7q (gb P R:Nat) (sa:Option Addr) (sc:Nat) (f:Nat->Bool) (w:World) (hP:P<=1000000) (hR:R<=1000000) (hG:GL gb P R w) (hB:BR sa f (P+R) w):
  Calls Tryz.prog 57 #[.pointer (some ⟨gb,0,none⟩),.slice sa (P+R) sc] w fun e w'=>e=.returned (.int .i64 (vdF (fun r=>f (P+r)) R 0))/\w'=w:=by
 obtain⟨⟨a0,x0,c0⟩,a1,x1,c1⟩:=hG;obtain⟨V,hV⟩:=nam (vdF (fun r=>f (P+r)) R 0);rw[<-hV];have HV:=hyd hV;have HB:=hyd hB;clear hV hB;go_enter Tryz.func57,Tryz.ntmps57;go_wp2_with fail
 go_loop [5] (fun x=>∃(u r:Nat),u+r=R/\x=.int .i64 r/\Hid (V=vdF (fun r=>f (P+r)) u r)) (fun x=>R-(intOf x).toNat)
 case atStart=>exact⟨R,0,rfl,rfl,HV⟩
 case round=>
  clear HV;obtain⟨u,r,hu,rfl,HV⟩:=hrel;by_cases hlt:r<R
  ·have hlt':(r:Int)<R:=by omega
   rcases u with _|u
   ·omega
   obtain⟨g,o,eg,c⟩:=HB.out (P+r) (by omega);subst eg;cases hf:f (P+r)
   ·rw[hf]at c;have HV1:Hid (V=vdF (fun r=>f (P+r)) u (r+1)):=by show _=_;rw[HV.out,vdF,hf];rfl
    clear HV hf;go_wp2_with fail
    go_round
    case rel=>exact⟨u,r+1,by omega,by go_num,HV1⟩
    case measure=>simp[intOf];omega
   ·rw[hf]at c;have HV1:Hid (V=r):=by show _=_;rw[HV.out,vdF,hf];rfl
    clear HV hf;go_wp2_with fail;go_ret;exact⟨q0l HV1.out.symm,rfl⟩
  ·have hge:¬(r:Int)<R:=by omega
   have hu0:u=0:=by omega
   subst hu0;have HV1:Hid (V=-1):=HV;go_wp2_with fail;go_ret;exact⟨q0l HV1.out.symm,rfl⟩
theorem q3s (gb P R:Nat) (w:World) (hP:P<=1000) (hR:R<=1000) (hG:GL gb P R w):
  Calls Tryz.prog 52 #[.pointer (some ⟨gb,0,none⟩)] w fun e w'=>e=.returned (.slice (some ⟨w.heap.size,0,none⟩) (P+R) (P+R))/\TC w.heap.size (bl (fun _=>false) (P+R)) w'/\Below w.heap.size w w'/\w.heap.size+1<=w'.heap.size:=by
 obtain⟨⟨a0,x0,c0⟩,a1,x1,c1⟩:=hG;have hmk:(Instr.makeSlice 78 (.int .i64 ((P:Int)+(R:Int))) (.int .i64 ((P:Int)+(R:Int)))).run Tryz.prog w.drew=.ok (.slice (some ⟨w.heap.size,0,none⟩) (P+R) (P+R)) (w.drew.alloc (.cells (bl (fun _=>false) (P+R)).toArray 4)):=by
  have:=q5i w.drew (P+R) (by omega);rw[Int.natCast_add]at this;exact this
 obtain⟨W,hW⟩:=nam (w.drew.alloc (.cells (bl (fun _=>false) (P+R)).toArray 4));rw[<-hW]at hmk;have T:TC w.heap.size (bl (fun _=>false) (P+R)) W:=by rw[hW];exact TC.boxed w.drew _ _
 have B:Below w.heap.size w W:=by rw[hW];exact(Below.refl _ _).drew.trans (box_bel w.drew _)
 have s:w.heap.size+1<=W.heap.size:=by rw[hW];simp
 clear hW;go_enter Tryz.func52,Tryz.ntmps52;go_wp2_with fail;refine wp_region_still_tail 11 (by kernel_rfl) (by kernel_rfl) ?_;simp only[List.take_succ_cons,List.take_zero,List.drop_succ_cons,List.drop_zero];change wpStill _ _ w.drew (fun a'=>wpList _ _ _ _ a' w.drew) _ _;have d0:=c0;have d1:=c1
 repeat still_step
 refine wpStill_nil ?_;go_wp2_with fail;rw[hmk];go_wp2_with fail;go_ret;exact⟨rfl,T,B,s⟩
structure GR (gb P R:Nat) (tr:Nat->Nat) (Ts:Nat->Nat->Nd) (Ns:Nat->Nat) (ti nd:Nat->Nat) (w:World):Prop where
 t:∃a c,w.cell? ⟨gb,0,none⟩=some (.slice a R c)/\∀r,r<R->∃b o,a=some ⟨b,o,none⟩/\w.cell? ⟨b,o+r,none⟩=some (.pointer (some ⟨tr r,0,none⟩))/\TR (tr r) (Ts r) (Ns r) w
 p:∃a c,w.cell? ⟨gb,1,none⟩=some (.slice a P c)/\IL a (fun i=>(ti i:Int)) P w
 n:∃a c,w.cell? ⟨gb,2,none⟩=some (.slice a P c)/\IL a (fun i=>(nd i:Int)) P w
 ok:∀p,p<P->ti p<R/\nd p<Ns (ti p)/\(Ts (ti p) (nd p)).kind=0
variable {tr : Nat → Nat}{Ts : Nat → Nat → Nd}
theorem GR.gl (h:GR gb P R tr Ts Ns ti nd w):GL gb P R w:=by
 obtain⟨a,c,h0,_⟩:=h.t;obtain⟨a1,c1,h1,_⟩:=h.p;exact⟨⟨a,c,h0⟩,a1,c1,h1⟩
theorem GR.below (h:GR gb P R tr Ts Ns ti nd w) (hW:Below w.heap.size w w'):GR gb P R tr Ts Ns ti nd w':=by
 obtain⟨a,c,h0,ht⟩:=h.t;obtain⟨a1,c1,h1,i1⟩:=h.p;obtain⟨a2,c2,h2,i2⟩:=h.n;have hb:=World.block_lt_of_cell? w _ h0;have e:∀k,w'.cell? ⟨gb,k,none⟩=w.cell? ⟨gb,k,none⟩:=fun k=>hW.cell (p:=⟨gb,k,none⟩) hb
 refine⟨⟨a,c,by rw[e];exact h0,fun r hr=>?_⟩,⟨a1,c1,by rw[e];exact h1,i1.below hW⟩,⟨a2,c2,by rw[e];exact h2,i2.below hW⟩,h.ok⟩;obtain⟨b,o,e1,c3,tr1⟩:=ht r hr;exact⟨b,o,e1,by rw[hW.cell (p:=⟨b,o+r,none⟩) (World.block_lt_of_cell? w _ c3)];exact c3,tr1.below hW⟩
theorem q6N (gb P R:Nat) (tr:Nat->Nat) (Ts:Nat->Nat->Nd) (Ns ti nd:Nat->Nat) (p b:Nat) (w:World) (hP:P<=1000000) (hR:R<=1000000) (hNs:∀r,r<R->Ns r<=1000000) (hG:GR gb P R tr Ts Ns ti nd w) (hp:p<P) (hb:b<256):
  Calls Tryz.prog 116 #[.pointer (some ⟨gb,0,none⟩),.int .i64 p,.int .i64 b] w fun e w'=>e=.returned (.bool ((Ts (ti p) (nd p)).inn b))/\Below w.heap.size w w':=by
 obtain⟨a0,x0,c0,ht⟩:=hG.t;obtain⟨a1,x1,c1,i1⟩:=hG.p;obtain⟨a2,x2,c2,i2⟩:=hG.n;obtain⟨k1,k2,k3⟩:=hG.ok p hp;obtain⟨g1,o1,e1,d1⟩:=i1 p hp;obtain⟨g2,o2,e2,d2⟩:=i2 p hp;subst e1 e2;obtain⟨t,ht'⟩:=nam (ti p);obtain⟨n,hn'⟩:=nam (nd p);simp only[<-ht',<-hn']at d1 d2 k1 k2 k3 ⊢;obtain⟨g3,o3,e3,d3,hT⟩:=ht t k1;subst e3;have hNt:=hNs t k1;obtain⟨na,nc,d4,hnd⟩:=hT;obtain⟨nb,off,vin,ka,kc,e4,r,_,_,hin⟩:=hnd n k2;obtain⟨ia,ic,e5,br⟩:=hin k3;subst e4 e5;obtain⟨ib,io,e6,d6⟩:=br b hb;subst e6;have d5:=r 1 _ rfl;obtain⟨NN,hNN⟩:=nam (Ns t);rw[<-hNN]at hNt k2 d4;obtain⟨V,hV⟩:=nam ((Ts t n).inn b);rw[<-hV]at d6 ⊢;have q1:(p:Int)<P:=by omega
 have q2:(t:Int)<R:=by omega
 have q3:(n:Int)<NN:=by omega
 have q4:(b:Int)<256:=by omega
 clear ht i1 i2 hG hnd hin br r ht' hn' hNN hV hNs;go_enter Tryz.func116,Tryz.ntmps116;go_wp2_with fail
 go_quiet (fail)
 go_wp2_with fail;go_ret;exact⟨rfl,q1w _ _ _⟩
end Go.Proofs.YtoaaklhpmhjhkaaGreat
