import Derived.Test.YtoaaklhpmhjhkabGreatC29
set_option maxRecDepth 100000
set_option maxHeartbeats 4000000
set_option linter.all false
namespace Go.Proofs.YtoaaklhpmhjhkabGreat
section
open Go.RowKit
open Bm
variable {l:List (N_)}{ls:List Nat}{L:List Value}{b base base' gb k m n nb t:Nat}{F:N_}{f:Nat->Int}{v vb vh vl vs vt:Value}{W w:World}
theorem Xp.hs {f:Nat->Nat->Bool} (h:Xp base v (Wh n f) w):∃ha hc,v=.slice ha n hc/\HS ha f n w:=by
 obtain⟨ad,cap,e,h1⟩:=h.at_;rw[X4]at e;refine⟨ad,cap,e,fun p b hp hb=>?_⟩;obtain⟨g,e1,h2⟩:=h1 p _ (TL f hp);exact⟨g,0,e1,by rw[Nat.zero_add];exact h2 b _ (YK _ hb)⟩
theorem Ya.bh {f:Nat->Nat->Bool} (h:Ya base v (Wh n f) w):∃ba bc,v=.slice ba n bc/\BH ba f n w:=by
 obtain⟨ad,cap,e,h1⟩:=h.at_;rw[X4]at e;refine⟨ad,cap,e,fun p hp=>?_⟩;obtain⟨g,e1,h2⟩:=h1 p _ (TL f hp);exact⟨g,0,e1,by rw[Nat.zero_add];exact h2⟩
theorem Ya.sr (h:Ya base v l w):∃sa sc,v=.slice sa l.length sc/\SR sa (fun i r=>(l.getD i R8) (96+r)) l.length w:=by
 obtain⟨ad,cap,e,h1⟩:=h.at_;refine⟨ad,cap,e,fun i hi=>?_⟩;obtain⟨g,e1,h2⟩:=h1 i _ (List.getElem?_eq_getElem hi);refine⟨g,0,e1,fun r hr=>?_⟩;have:=h2 (96+r) _ (YK _ (by omega));show w.cell? ⟨g,0+i*104+96+r,none⟩=some (.bool ((l.getD i R8) (96+r)));rw[Nat.zero_add,Nat.add_assoc,List.getD_eq_getElem?_getD,List.getElem?_eq_getElem hi];exact this
theorem WF.lb {l:List Nat} (h:WF base v l w) (hb:∀(k b:Nat),l[k]?=some b->b<256):∃la lc,v=.slice la l.length lc/\LB la l w:=by
 obtain⟨ad,cap,e,h1⟩:=h.at_;refine⟨ad,cap,e,fun k b hk=>?_⟩;obtain⟨g,e1,h2⟩:=h1 k b hk;exact⟨hb k b hk,g,0,e1,by rw[Nat.zero_add];exact h2⟩
def Mn (hs:Nat->Nat->Bool) (P:Nat):List Nat:=reps (Kq hs P) 256
variable {hs:Nat->N_}
theorem Jd {P:Nat} (h:(Mn hs P)[k]?=some b):b<256:=(reps_mem h).1
theorem Ul (hs:Nat->Nat->Bool) (P:Nat):0<(Mn hs P).length/\(Mn hs P).length<=256:=
 ⟨Nat.lt_of_le_of_lt (Nat.zero_le _) (idx_lt (TD hs P 256) (a:=0) (by omega)),cnt_le _ _⟩
theorem Nu (hs:Nat->Nat->Bool) (P:Nat):FE hs P (Mn hs P):=fun b hb=>by
 have hE:=TD hs P 256;have h1:=idx_lt hE hb;obtain⟨c,hc⟩:∃c,(Mn hs P)[idx (Kq hs P) b]?=some c:=⟨(Mn hs P)[idx (Kq hs P) b]'h1,List.getElem?_eq_getElem _⟩;obtain⟨a1,a2,a3⟩:=reps_mem hc;have:idx (Kq hs P) c=idx (Kq hs P) b:=by rw[idx_rep a2,a3]
 exact⟨_,c,hc,(U0 hs P c b).1 ((idx_eq hE a1 hb).1 this)⟩
variable {bh:Nat->N_}
theorem Jo {P:Nat} (hr:w.rangeAt nb 0 (PV vh vb F)) (hH:Xp base vh (Wh P hs) w) (hB:Ya base' vb (Wh P bh) w):∃ha hc ba bc,NR nb ha hc P hs ba bc bh F w:=by
 obtain⟨ha,hc,rfl,h1⟩:=hH.hs;obtain⟨ba,bc,rfl,h2⟩:=hB.bh;refine⟨ha,hc,ba,bc,by simpa using hr 0 _ rfl,by simpa using hr 1 _ rfl,fun j v hv=>?_,h1,h2⟩;have:=hr (2+j) v (by rw[Nat.add_comm];exact hv);simpa using this
theorem KD {kb:Nat} (hr:w.rangeAt kb 0 (Ys f vl)):w.rangeAt kb 0 (kl f)/\w.cell? ⟨kb,256,none⟩=some vl:=by
 refine⟨fun j v hv=>hr j v ?_,by simpa using hr 256 vl (Xl f vl)⟩;have hj:j<256:=by have:=(List.getElem?_eq_some_iff.1 hv).1;rw[Jf]at this;exact this
 rw[WK f vl j hj];simp[kl,hj]at hv;rw[hv]
theorem Mj {A:(Nat->Bool)->Nat->Nat->Bool}{t:List Int} (hK:0<ls.length) (h:VP A F ls l.length 0 l t) (hS:Ya base vs l w) (hT:OwnL base vt t w) (hr:w.rangeAt gb 0 [.int .i64 ls.length,vs,vt]):∃ta tc sa sc,Gr gb (Yf l t ls.length) ta tc (.slice sa l.length sc) w/\SR sa (fun i r=>(l.getD i R8) (96+r)) l.length w:=by
 obtain⟨sa,sc,rfl,h1⟩:=hS.sr;obtain⟨ta,tc,rfl,h2⟩:=hT.il;obtain⟨_,_,e3,_⟩:=h.size;have htl:t.length=l.length*ls.length:=by omega
 refine⟨ta,tc,sa,sc,⟨by show _=some (Value.int .i64 (ls.length:Int));simpa using hr 0 _ rfl,by simpa using hr 1 _ rfl,?_,?_⟩,h1⟩
 ·have:=hr 2 _ rfl;rw[htl]at this;show _=some (Value.slice ta (l.length*ls.length) tc);simpa using this
 ·show IL ta (fl (Yf l t ls.length)) (l.length*ls.length) w;rw[<-htl];intro i hi;obtain⟨b,o,e,hc⟩:=h2 i hi;refine⟨b,o,e,?_⟩;rw[Qu _ _ _ _ hK,List.getD_eq_getElem?_getD,List.getElem?_eq_getElem hi];simpa[List.getD_eq_getElem?_getD,List.getElem?_eq_getElem hi]using hc
open Pg (Pt)
def UY:List Value:=[.int .i64 0,.slice none 0 0,.slice none 0 0,.slice none 0 0]
def VQ (es:Nat->Rx) (n:Nat) (f:Nat->Bool) (b:Nat):Nat->Bool:=YI (XW es n) (VY es n) f b (YV es n)
def Vh (es:Nat->Rx) (n:Nat):List Nat:=Mn (XW es n) (YV es n)
def Gh (es:Nat->Rx) (n:Nat) (b:Nat):Int:=idxI (Kq (XW es n) (YV es n)) b
def IB (es:Nat->Rx) (n:Nat) (w:World) (en:Ending) (w':World):Prop:=
 Below w.heap.size w w' /\
 ((en=.returned (.tuple #[.agg UY.toArray,.int .i64 8])/\∃s k l t f b,VP (VQ es n) (XQ es n) (Vh es n) s k l t/\l[s]?=some f/\(Vh es n)[k]?=some b/\200<=WL l (VQ es n f b)) \/
  ∃l t A,A=Yf l t (Vh es n).length/\VP (VQ es n) (XQ es n) (Vh es n) l.length 0 l t /\
  ((96<cnt (alB A) A.N/\en=.returned (.tuple #[.agg UY.toArray,.int .i64 9])) \/
   (¬96<cnt (alB A) A.N/\∃vc vl vn kf,en=.returned (.tuple #[.agg #[.int .i64 n,vc,vl,vn],.int .i64 0])/\(∀b,b<256->kf b=Gh es n b) /\
   OwnL w.heap.size vc (Xy (Cl (YT A (alB A)) (cnt (alB A) A.N)) kf 256) w'/\OwnL w.heap.size vl (Xu A (alB A) (cnt (alB A) A.N)) w'/\OwnL w.heap.size vn (WM (YT A (alB A)) (reps (Cl (YT A (alB A)) (cnt (alB A) A.N)) A.K) (cnt (alB A) A.N)) w' /\
   (∀k,vc.ownBlock=some k->vl.ownBlock≠some k)/\(∀k,vc.ownBlock=some k->vn.ownBlock≠some k)/\(∀k,vl.ownBlock=some k->vn.ownBlock≠some k))))
theorem VV (w:World) (Z0 Z:List Value) (ty:TypeId) (hl:Z.length=Z0.length):Below w.heap.size w ((w.alloc (.cells Z0.toArray ty)).setCells w.heap.size 0 Z)/\((w.alloc (.cells Z0.toArray ty)).setCells w.heap.size 0 Z).rangeAt w.heap.size 0 Z/\w.heap.size+1<=((w.alloc (.cells Z0.toArray ty)).setCells w.heap.size 0 Z).heap.size/\(w.alloc (.cells Z0.toArray ty)).there w.heap.size 0 Z.length:=by
 have T:=(TC.boxed w Z0 ty).there;rw[<-hl]at T;have hG:=Y6 w.heap.size Z 0 (w.alloc (.cells Z0.toArray ty));have B:=box_bel w (.cells Z0.toArray ty);have hs:(w.alloc (.cells Z0.toArray ty)).heap.size=w.heap.size+1:=by simp
 refine⟨B.grown hG B.size (fun q hq=>by cases hq;omega),World.rangeAt_setCells_same _ _ 0 Z T,?_,T⟩;have:=hG.size;omega
theorem Io (hth:w.there t 0 L.length):TC t L (w.setCells t 0 L):=fun k v hv=>by
 have h1:=World.rangeAt_setCells_same w t 0 L hth k v hv;have hk:=(List.getElem?_eq_some_iff.1 hv).1;have h2:=(hth k hk).2;rw[Nat.zero_add]at h1 h2;refine⟨h1,?_⟩;rw[World.frozen?_setCells];exact h2
theorem Up (a b c d:Value) (T:TC w.heap.size UY W) (B:Below w.heap.size w W):W.there w.heap.size 0 4/\Below w.heap.size w (W.setCells w.heap.size 0 [a,b,c,d])/\(loadVar 41 ⟨w.heap.size,0,none⟩).run Tryz.prog (W.setCells w.heap.size 0 [a,b,c,d])=.ok (.agg #[a,b,c,d]) (W.setCells w.heap.size 0 [a,b,c,d])/\W.grownBy (W.setCells w.heap.size 0 [a,b,c,d]) (some w.heap.size):=by
 have t:=T.there;have hG:=Y6 w.heap.size [a,b,c,d] 0 W;exact⟨t,B.grown hG B.size (fun q hq=>by cases hq;omega),run_loadVar_mid (P:=Tryz.prog) _ w.heap.size 0 41 [a,b,c,d] _ (World.rangeAt_setCells_same W w.heap.size 0 [a,b,c,d] t) u_m rfl XG,hG⟩
theorem KH (b off cap n:Nat) (f:Nat->ByteArray) (w:World) (h1:1<=n) (h8:n<=8) (hb:b<w.heap.size) (hm:∀i,i<n->(f i).size<=maxLen) (hr:PK b off f n w) (hok:∀j,j<n->(Pg.wrong (Y5 (f j)) (f j).size).1=0) (hsum:¬96<X8 (fun j=>Yt (f j)) n):
  Calls Tryz.prog 10 #[.slice (some ⟨b,off,none⟩) n cap] w (IB (fun j=>WY (f j)) n w):=by
 have hz:=Vv;have hz2:=Tz;have hz3:=Rp;have hz4:=Ro;have hz5:=SE;obtain⟨W0,hW0⟩:∃W,W=w.alloc (.cells #[.int .i64 0,.slice none 0 0,.slice none 0 0,.slice none 0 0] 41):=⟨_,rfl⟩;have T0:TC w.heap.size UY W0:=by rw[hW0];exact TC.boxed w UY _
 have B0:Below w.heap.size w W0:=by rw[hW0];exact box_bel _ _
 have hs0:W0.heap.size=w.heap.size+1:=by rw[hW0];simp
 obtain⟨es,hes⟩:∃es:Nat->Rx,es=fun j=>WY (f j):=⟨_,rfl⟩
 have hrd:∀j,j<n->(Pg.readParts (Y5 (f j)) (f j).size).ok=true:=fun j hj=>((Xn (f j)).2 (hok j hj)).2.2
 have hNs:=(RB es (fun j=>Yt (f j)) n (fun i hi=>by rw[hes];exact Ur (f i) (hrd i hi)) hsum).2;have HL:Hid (Rr (YV es n) (XW es n) (VY es n) (XQ es n)):=QT es n h1 h8 hNs (fun k hk=>by rw[hes];exact Pa (f k) (hok k hk));have HGo:Hid (∀p,p<YV es n->PJ (YV es n) (VY es n) p):=QS es n h8 hNs;have HOf:Hid (Calls Tryz.prog 15 #[.slice (some ⟨b,off,none⟩) n cap] W0 (IC es n W0)):=by
  show Calls _ _ _ _ _;rw[hes];exact FM b off cap n f W0 h1 h8 (by omega) hm (hr.below hb B0) hok hsum
 have HW0:Hid (W0=w.alloc (.cells #[.int .i64 0,.slice none 0 0,.slice none 0 0,.slice none 0 0] 41)):=hW0;rw[<-hes];have Hs0:Hid (W0.heap.size=w.heap.size+1):=hs0;have HN:Hid (YV es n<=96):=hNs;have hn8:(n:Int)<=8:=by omega
 clear hW0 hes hrd hNs hs0 hr hok hsum hm;go_enter Tryz.func10,Tryz.ntmps10;go_wp2_with fail;rw[<-HW0.out];refine HOf.out.mono ?_;rintro en w2 ⟨vh,vb,rfl,OH,OB,B2⟩;have HOH:Hid (Xp W0.heap.size vh (Wh (YV es n) (XW es n)) w2/\Ya W0.heap.size vb (Wh (YV es n) (VY es n)) w2/\Below w.heap.size w w2/\TC w.heap.size UY w2/\w.heap.size+1<=w2.heap.size):=⟨OH,OB,B0.trans (B2.mono (by have:=Hs0.out;omega)),T0.block (B2.block _ (by have:=Hs0.out;omega)),by have:=Hs0.out;have:=B2.size;omega⟩;obtain⟨Z,hZ⟩:∃Z,Z=PV vh vb (XQ es n):=⟨_,rfl⟩;rw[<-hZ];have HZZ:Hid (Z=PV vh vb (XQ es n)):=hZ;have HZ:Hid (Z.length=106):=by show _=_;rw[hZ];exact V0 _ _ _
 have hone1:vh.oneCell'=true:=by obtain⟨a1,c1,e1,_⟩:=OH.at_;rw[e1];rfl
 have hone2:vb.oneCell'=true:=by obtain⟨a1,c1,e1,_⟩:=OB.at_;rw[e1];rfl
 have HOZ:Hid (Z.toArray.all (·.oneCell')=true):=by show _=true;rw[hZ];exact SZ hone1 hone2 _
 clear OH OB B2 hZ hone1 hone2 B0 T0 HOf HW0;go_wp2_with (first|(with_reducible refine gst 64 ?_;refine Wg.out ?_));refine⟨?_⟩;obtain⟨w3,hw3⟩:∃W,W=(w2.alloc (.cells XX.toArray 64)).setCells w2.heap.size 0 Z:=⟨_,rfl⟩;have hbo:=VV w2 XX Z 64 (by rw[HZ.out];exact(V0 _ _ _).symm);rw[<-hw3]at hbo;obtain⟨B3,r3,s3,t3⟩:=hbo;obtain⟨OH,OB,Bw2,T2,z2⟩:=HOH.out;refine wpList_store_mid rfl 64 _ _ rfl w2.heap.size 0 Z.toArray rfl rfl (by simpa using t3) (by simpa[HZ.out]using Wx) HOZ.out ?_;rw[List.toList_toArray,<-hw3];rw[HZZ.out]at r3;obtain⟨ha,hc,ba,bc,N3⟩:=Jo r3 (OH.below B3) (OB.below B3);have Bw3:Below w.heap.size w w3:=Bw2.trans (B3.mono (by omega));have T3:=T2.block (B3.block _ (by omega));have HKi:Hid (Calls Tryz.prog 16 #[.pointer (some ⟨w2.heap.size,0,none⟩)] w3 (MX (Kq (XW es n) (YV es n)) w3)):=Nv w2.heap.size ha hc (YV es n) (XW es n) w3 HN.out N3.c0 N3.h;have HN3:Hid (NR w2.heap.size ha hc (YV es n) (XW es n) ba bc (VY es n) (XQ es n) w3):=N3;have HW3:Hid (Below w.heap.size w w3/\TC w.heap.size UY w3/\w2.heap.size+1<=w3.heap.size/\w.heap.size+1<=w2.heap.size):=⟨Bw3,T3,s3,z2⟩;clear hw3 OH OB Bw2 T2 t3 r3 N3 Bw3 T3 B3 HOH HOZ HZ HZZ s3 z2;go_wp2_with fail;refine HKi.out.mono ?_;rintro en w4 ⟨kf,vl,rfl,hkf,OU,B4⟩;obtain⟨Kc,hKc⟩:∃K,K=Ys kf vl:=⟨_,rfl⟩;rw[<-hKc];have HKl:Hid (Kc.length=257):=by show _=_;rw[hKc];exact XK _ _
 obtain⟨la,lc,evl,LB4⟩:=OU.lb (fun k b hk=>Jd hk);have HK1:Hid (Kc.toArray.all (·.oneCell')=true):=by
  show _=true;rw[hKc,evl,List.all_toArray];simp[Ys,Value.oneCell']
 have HKc:Hid (Kc=Ys kf vl):=hKc;clear hKc;go_wp2_with (first|(with_reducible refine gst 70 ?_;refine Wg.out ?_));refine⟨?_⟩;obtain⟨w5,hw5⟩:∃W,W=(w4.alloc (.cells (Ys (fun _=>0) (.slice none 0 0)).toArray 70)).setCells w4.heap.size 0 Kc:=⟨_,rfl⟩;have hbo:=VV w4 (Ys (fun _=>0) (.slice none 0 0)) Kc 70 (by rw[HKl.out,XK]);rw[<-hw5]at hbo;obtain⟨B5,r5,s5,t5⟩:=hbo;refine wpList_store_mid rfl 70 _ _ rfl w4.heap.size 0 Kc.toArray rfl rfl (by simpa using t5) (by simpa[HKl.out]using Vb) HK1.out ?_;rw[List.toList_toArray,<-hw5];obtain⟨Bw3,T3,z3,z2⟩:=HW3.out;have z4:=B4.size;rw[HKc.out]at r5;obtain⟨rk,ck⟩:=KD r5;rw[evl]at ck;obtain⟨m,hm⟩:∃m,m=(Vh es n).length:=⟨_,rfl⟩;have hmm:m=(reps (Kq (XW es n) (YV es n)) 256).length:=hm;rw[<-hmm]at ck;have hm2:m<=256:=by rw[hm];exact(Ul _ _).2
 have N5:=(HN3.out.below B4).below B5;have Bw5:Below w.heap.size w w5:=(Bw3.trans (B4.mono (by omega))).trans (B5.mono (by omega));have T5:=(T3.block (B4.block _ (by omega))).block (B5.block _ (by omega));have HEx:Hid (Calls Tryz.prog 17 #[.pointer (some ⟨w2.heap.size,0,none⟩),.slice la m lc] w5 (Iy (VQ es n) (XQ es n) (Vh es n) w5)):=by
  show Calls _ _ _ _ _;rw[hm];exact Ni w2.heap.size ha hc (YV es n) (XW es n) ba bc (VY es n) (XQ es n) la lc (Vh es n) w5 HN.out (Ul _ _).2 N5 (LB4.below B5)
 have HW5:Hid (Below w.heap.size w w5/\TC w.heap.size UY w5/\w4.heap.size+1<=w5.heap.size/\w.heap.size+1<=w4.heap.size/\w5.rangeAt w4.heap.size 0 (kl kf)):=⟨Bw5,T5,s5,by omega,rk⟩;have Hm:Hid (m=(Vh es n).length):=hm;have Hkf:Hid (∀b,b<256->kf b=Gh es n b):=hkf;clear hw5 r5 rk B5 s5 t5 Bw3 T3 z3 z2 z4 N5 Bw5 T5 hm hmm hkf evl OU LB4 B4 HK1 HKl HKc HKi HN3 HW3;go_wp2_with fail;refine HEx.out.mono ?_;rintro en w6 ⟨B6,hcase⟩;obtain⟨Bw5,T5,z5,z4,rk⟩:=HW5.out;have T6:=T5.block (B6.block _ (by omega));have Bw6:Below w.heap.size w w6:=Bw5.trans (B6.mono Bw5.size);rcases hcase with ⟨vs,vt,l,t,rfl,hE,OS,OL⟩|⟨rfl,hbad⟩
 ·rw[<-Hm.out];go_wp2_with (first|(with_reducible refine gst 74 ?_;refine Wg.out ?_));refine⟨?_⟩;obtain⟨w7,hw7⟩:∃W,W=(w6.alloc (.cells PO.toArray 74)).setCells w6.heap.size 0 [.int .i64 m,vs,vt]:=⟨_,rfl⟩;have hbo:=VV w6 PO [.int .i64 m,vs,vt] 74 rfl;rw[<-hw7]at hbo;obtain⟨B7,r7,s7,t7⟩:=hbo;obtain⟨_,_,evs,_⟩:=OS.at_;obtain⟨_,_,evt,_⟩:=OL.il;refine wpList_store_mid rfl 74 _ _ rfl w6.heap.size 0 #[.int .i64 m,vs,vt] rfl rfl t7 Xt (by simp[evs,evt,Value.oneCell']) ?_;rw[List.toList_toArray];have hw7':w7=(w6.alloc (.cells #[.int .i64 0,.slice none 0 0,.slice none 0 0] 74)).setCells w6.heap.size 0 [.int .i64 m,vs,vt]:=hw7;rw[<-hw7'];have z6:=B6.size;have T7:=T6.block (B7.block _ (by omega));have Bw7:Below w.heap.size w w7:=Bw6.trans (B7.mono Bw6.size);rw[Hm.out]at r7;obtain⟨ta,tc,sa,sc,G7,S7⟩:=Mj (Ul _ _).1 hE (OS.below B7) (OL.below B7) r7;have rk7:w7.rangeAt w4.heap.size 0 (kl kf):=fun j v hv=>by
   have h:=rk j v hv;rw[B7.cell (p:=⟨w4.heap.size,0+j,none⟩) (by show w4.heap.size<w6.heap.size;omega),B6.cell (p:=⟨w4.heap.size,0+j,none⟩) (by show w4.heap.size<w5.heap.size;omega)];exact h
  obtain⟨A,hA⟩:∃A,A=Yf l t (Vh es n).length:=⟨_,rfl⟩;have hE':=hE.size;have hAs:Aut.Small A:=by rw[hA];exact⟨hE'.2.1,(Ul _ _).2⟩
  have hGd:A.Good:=by rw[hA];exact Qv HL.out HGo.out (Nu _ _) hE
  have hAN:A.N=l.length:=by rw[hA];rfl
  have hAK:A.K=(Vh es n).length:=by rw[hA];rfl
  have hvd:∀i,i<A.N->A.vd i=Vf ((fun i r=>(l.getD i R8) (96+r)) i) 8 0:=fun i _=>by rw[hA];rfl
  rw[show Yf l t (Mn (XW es n) (YV es n)).length=A from hA.symm,<-hAN]at G7;rw[<-hAN]at S7;obtain⟨rl,hrl⟩:∃rl:Nat->Nat->Bool,rl=fun i r=>(l.getD i R8) (96+r):=⟨_,rfl⟩
  rw[<-hrl]at S7 hvd;have hkK:∀b,b<256->0<=kf b/\kf b<A.K:=fun b hb=>by
   have h1:=idx_lt (TD (XW es n) (YV es n) 256) hb;rw[Hkf.out b hb,hAK];have h2:Gh es n b=(idx (Kq (XW es n) (YV es n)) b:Int):=rfl;have h3:(Vh es n).length=cnt (Kq (XW es n) (YV es n)) 256:=rfl;omega
  have HAl:Hid (Calls Tryz.prog 18 #[.pointer (some ⟨w6.heap.size,0,none⟩)] w7 (SO (alB A) A.N w7)):=J4 w6.heap.size A ta tc sa sc rl w7 hAs hGd (by omega) G7 S7 hvd;have HMo:Hid (∀(vo vf:Value) (b1 b2:Nat) (W:World),Below w7.heap.size w7 W->OwnL b1 vo (V4 (alB A) A.N) W->OwnL b2 vf (YP (alB A) A.N) W->Calls Tryz.prog 19 #[.pointer (some ⟨w6.heap.size,0,none⟩),.pointer (some ⟨w4.heap.size,0,none⟩),.agg #[vo,vf]] W (Qo A (alB A) kf W)):=fun vo vf b1 b2 W hW ho hf=>
   PQ w6.heap.size A ta tc sa sc rl w4.heap.size kf (alB A) b1 b2 vo vf W hAs hGd.rng (G7.below hW) (S7.below hW) hvd (fun j v hv=>by
    rw[hW.cell (p:=⟨w4.heap.size,0+j,none⟩) (by show w4.heap.size<w7.heap.size;omega)];exact rk7 j v hv) hkK ho hf
  have HAx:Hid (A=Yf l t (Vh es n).length/\VP (VQ es n) (XQ es n) (Vh es n) l.length 0 l t):=⟨hA,hE⟩;have HW7:Hid (Below w.heap.size w w7/\TC w.heap.size UY w7/\w.heap.size+1<=w7.heap.size):=⟨Bw7,T7,by omega⟩;have HAN:Hid (A.N<=200):=hAs.n;clear hw7 hw7' T7 Bw7 T6 Bw6 T5 Bw5 rk rk7 B7 r7 t7 hA hE' hAs hGd hAN hAK hvd G7 S7 hrl hkK hE OS OL evs evt z6 s7 B6 z5 z4 HW5 HEx;go_wp2_with fail;refine HAl.out.mono ?_;rintro en w8 ⟨vo,vf,rfl,Oo,Of,hne,B8⟩;obtain⟨fa,fc,evf,_⟩:=Of.il;rw[YE]at evf;obtain⟨C,hC⟩:∃C,C=cnt (alB A) A.N:=⟨_,rfl⟩;rw[<-hC]at evf;have Hone:Hid ((#[vo,vf]:Array Value).all (·.oneCell')=true):=by
   obtain⟨_,_,evo,_⟩:=Oo.il;show _=true;simp[evo,evf,Value.oneCell']
  have Hevf:Hid (vf=.slice fa C fc):=evf;have HC:Hid (C=cnt (alB A) A.N):=hC;clear evf hC;go_wp2_with (first|(with_reducible refine gst 78 ?_;refine Wg.out ?_));refine⟨?_⟩;obtain⟨w9,hw9⟩:∃W,W=(w8.alloc (.cells [.slice none 0 0,.slice none 0 0].toArray 78)).setCells w8.heap.size 0 [vo,vf]:=⟨_,rfl⟩;have hbo:=VV w8 [.slice none 0 0,.slice none 0 0] [vo,vf] 78 rfl;rw[<-hw9]at hbo;obtain⟨B9,r9,s9,t9⟩:=hbo;refine wpList_store_mid rfl 78 _ _ rfl w8.heap.size 0 #[vo,vf] rfl rfl t9 XA Hone.out ?_;rw[List.toList_toArray];have hw9':w9=(w8.alloc (.cells #[.slice none 0 0,.slice none 0 0] 78)).setCells w8.heap.size 0 [vo,vf]:=hw9;rw[<-hw9'];obtain⟨Bw7,T7,z7⟩:=HW7.out;have z8:=B8.size;have Bw9:Below w.heap.size w w9:=(Bw7.trans (B8.mono (by omega))).trans (B9.mono (by omega));have T9:=(T7.block (B8.block _ (by omega))).block (B9.block _ (by omega));have cf:w9.cell? ⟨w8.heap.size,1,none⟩=some (.slice fa C fc):=by rw[<-Hevf.out];simpa using r9 1 _ rfl
  have HMo1:Hid (Calls Tryz.prog 19 #[.pointer (some ⟨w6.heap.size,0,none⟩),.pointer (some ⟨w4.heap.size,0,none⟩),.agg #[vo,vf]] w9 (Qo A (alB A) kf w9)):=HMo.out vo vf _ _ w9 (B8.trans (B9.mono z8)) (Oo.below B9) (Of.below B9);have hC2:(C:Int)<=200:=by have h1:=cnt_le (alB A) A.N;have h2:=HAN.out;have h3:=HC.out;omega
  have HW9:Hid (Below w.heap.size w w9/\TC w.heap.size UY w9/\w.heap.size+1<=w9.heap.size):=⟨Bw9,T9,by omega⟩;clear hw9 hw9' Oo Of hne B8 B9 s9 t9 Hevf Hone Bw7 T7 z7 z8 Bw9 T9 HW7 HMo HAl;by_cases hgt:96<C
  ·have hgt':(C:Int) > 96:=by omega
   obtain⟨Bw9,T9,z9⟩:=HW9.out;obtain⟨tz,BX,hfin,_⟩:=Up (.int .i64 0) (.slice none 0 0) (.slice none 0 0) (.slice none 0 0) T9 Bw9;obtain⟨WX,hWX⟩:∃W,W=w9.setCells w.heap.size 0 [.int .i64 0,.slice none 0 0,.slice none 0 0,.slice none 0 0]:=⟨_,rfl⟩;rw[<-hWX]at BX hfin;have HWX:Hid (WX=w9.setCells w.heap.size 0 [.int .i64 0,.slice none 0 0,.slice none 0 0,.slice none 0 0]):=hWX;have Hfin:Hid ((loadVar 41 ⟨w.heap.size,0,none⟩).run Tryz.prog WX=.ok (.agg #[.int .i64 0,.slice none 0 0,.slice none 0 0,.slice none 0 0]) WX):=hfin;clear hWX hfin T9 Bw9 z9 r9;go_wp2_with (first|(with_reducible refine gst 41 ?_;refine Wg.out ?_));refine⟨?_⟩;refine wpList_store_mid rfl 41 _ _ rfl w.heap.size 0 #[.int .i64 0,.slice none 0 0,.slice none 0 0,.slice none 0 0] rfl rfl tz XG (by simp[Value.oneCell']) ?_;rw[List.toList_toArray,<-HWX.out];go_wp2_with fail;refine bodyPost_ret (v:=.tuple #[.agg #[.int .i64 0,.slice none 0 0,.slice none 0 0,.slice none 0 0],.int .i64 9]) (Xm Tryz.results10 rfl Hfin.out rfl) rfl ?_;exact⟨BX,Or.inr ⟨l,t,A,HAx.out.1,HAx.out.2,Or.inl ⟨by rw[<-HC.out];exact hgt,rfl⟩⟩⟩
  ·have hgt':¬(C:Int) > 96:=by omega
   go_wp2_with (first|(with_reducible refine gld 78 ?_;refine Wg.out ?_));refine⟨?_⟩;refine wpList_load_mid rfl 78 _ rfl w8.heap.size 0 rfl [vo,vf] _ r9 u_j rfl XA ?_
   (try simp only[psm])
   clear r9 cf;go_wp2_with fail;refine HMo1.out.mono ?_;rintro en w10 ⟨vc,vl,vn,rfl,o1,o2,o3,n1,n2,n3,B10⟩;obtain⟨_,_,e1,_⟩:=o1.il;obtain⟨_,_,e2,_⟩:=o2.il;obtain⟨_,_,e3,_⟩:=o3.il;have Hal:Hid ((#[.int .i64 0,vc,vl,vn]:Array Value).all (·.oneCell')=true):=by
    show([.int .i64 0,vc,vl,vn]:List Value).toArray.all (·.oneCell')=true;rw[List.all_toArray,e1,e2,e3];rfl
   have Hal2:Hid ((#[.int .i64 n,vc,vl,vn]:Array Value).all (·.oneCell')=true):=by
    show([.int .i64 n,vc,vl,vn]:List Value).toArray.all (·.oneCell')=true;rw[List.all_toArray,e1,e2,e3];rfl
   clear e1 e2 e3;go_wp2_with (first|(with_reducible refine gst 41 ?_;refine Wg.out ?_));refine⟨?_⟩;obtain⟨w11,hw11⟩:∃W,W=(w10.alloc (.cells UY.toArray 41)).setCells w10.heap.size 0 [.int .i64 0,vc,vl,vn]:=⟨_,rfl⟩;have hbo:=VV w10 UY [.int .i64 0,vc,vl,vn] 41 rfl;have TM:TC w10.heap.size [.int .i64 0,vc,vl,vn] w11:=by rw[hw11];exact Io hbo.2.2.2
   rw[<-hw11]at hbo;obtain⟨B11,_,s11,t11⟩:=hbo;refine wpList_store_mid rfl 41 _ _ rfl w10.heap.size 0 #[.int .i64 0,vc,vl,vn] rfl rfl t11 XG Hal.out ?_;rw[List.toList_toArray];have hw11':w11=(w10.alloc (.cells #[.int .i64 0,.slice none 0 0,.slice none 0 0,.slice none 0 0] 41)).setCells w10.heap.size 0 [.int .i64 0,vc,vl,vn]:=hw11;rw[<-hw11'];obtain⟨Bw9,T9,z9⟩:=HW9.out;have z10:=B10.size;obtain⟨w12,hw12⟩:∃W,W=w11.setCell ⟨w10.heap.size,0,none⟩ (.int .i64 n):=⟨_,rfl⟩;have TN:TC w10.heap.size [.int .i64 n,vc,vl,vn] w12:=by rw[hw12];exact TM.set 0 (by simp) _
   have B12:Below w10.heap.size w10 w12:=by rw[hw12];exact B11.setCell (p:=⟨w10.heap.size,0,none⟩) (Nat.le_refl _) _
   have Bw12:Below w.heap.size w w12:=(Bw9.trans (B10.mono (by omega))).trans (B12.mono (by omega));have T12:=(T9.block (B10.block _ (by omega))).block (B12.block _ (by omega));obtain⟨tz,BX,hfin,hG⟩:=Up (.int .i64 n) vc vl vn T12 Bw12;have rM:=TN.range;have cm:=(TM 0 _ rfl).1;have fm:=(TM 0 _ rfl).2;have b1:=o1.blk;have b2:=o2.blk;have b3:=o3.blk;have O1:=(o1.below B12).grown hG (fun q hq e=>by have:=Option.some.inj e;have:=(b1 q hq).1;omega);have O2:=(o2.below B12).grown hG (fun q hq e=>by have:=Option.some.inj e;have:=(b2 q hq).1;omega);have O3:=(o3.below B12).grown hG (fun q hq e=>by have:=Option.some.inj e;have:=(b3 q hq).1;omega);obtain⟨WX,hWX⟩:∃W,W=w12.setCells w.heap.size 0 [.int .i64 n,vc,vl,vn]:=⟨_,rfl⟩;rw[<-hWX]at BX hfin O1 O2 O3;have HWX:Hid (WX=w12.setCells w.heap.size 0 [.int .i64 n,vc,vl,vn]):=hWX;have HW12:Hid (w12=w11.setCell ⟨w10.heap.size,0,none⟩ (.int .i64 n)):=hw12;have Hfin:Hid ((loadVar 41 ⟨w.heap.size,0,none⟩).run Tryz.prog WX=.ok (.agg #[.int .i64 n,vc,vl,vn]) WX):=hfin;have HP:Hid (IB es n w (.returned (.tuple #[.agg #[.int .i64 n,vc,vl,vn],.int .i64 0])) WX):=
    ⟨BX,Or.inr ⟨l,t,A,HAx.out.1,HAx.out.2,Or.inr ⟨by rw[<-HC.out];exact hgt,vc,vl,vn,kf,rfl,Hkf.out,O1.mono (by omega),O2.mono (by omega),O3.mono (by omega),n1,n2,n3⟩⟩⟩
   clear hw11 hw11' hw12 hWX hfin hG O1 O2 O3 b1 b2 b3 o1 o2 o3 n1 n2 n3 B10 B11 B12 Bw9 T9 Bw12 T12 BX TM TN z9 z10 s11 t11;go_wp2_with (first|(with_reducible refine gld 41 ?_;refine Wg.out ?_));refine⟨?_⟩;rw[<-HW12.out];refine wpList_load_mid rfl 41 _ rfl w10.heap.size 0 rfl [.int .i64 n,vc,vl,vn] _ rM u_m rfl XG ?_
   (try simp only[psm])
   refine wpList_store_mid rfl 41 _ _ rfl w.heap.size 0 #[.int .i64 n,vc,vl,vn] rfl rfl tz XG Hal2.out ?_;rw[List.toList_toArray,<-HWX.out];go_wp2_with fail;exact bodyPost_ret (v:=.tuple #[.agg #[.int .i64 n,vc,vl,vn],.int .i64 0]) (Xm Tryz.results10 rfl Hfin.out rfl) rfl HP.out
 ·go_wp2_with (first|(with_reducible refine gst 74 ?_;refine Wg.out ?_));refine⟨?_⟩;obtain⟨w7,hw7⟩:∃W,W=(w6.alloc (.cells PO.toArray 74)).setCells w6.heap.size 0 PO:=⟨_,rfl⟩;have hbo:=VV w6 PO PO 74 rfl;rw[<-hw7]at hbo;obtain⟨B7,r7,s7,t7⟩:=hbo;refine wpList_store_mid rfl 74 _ _ rfl w6.heap.size 0 PO.toArray rfl rfl t7 Xt (by simp[PO,Value.oneCell']) ?_;rw[List.toList_toArray];have hw7':w7=(w6.alloc (.cells #[.int .i64 0,.slice none 0 0,.slice none 0 0] 74)).setCells w6.heap.size 0 PO:=hw7;rw[<-hw7'];have T7:=T6.block (B7.block _ (by have:=B6.size;omega));have Bw7:Below w.heap.size w w7:=Bw6.trans (B7.mono Bw6.size);obtain⟨tz,BX,hfin,_⟩:=Up (.int .i64 0) (.slice none 0 0) (.slice none 0 0) (.slice none 0 0) T7 Bw7;obtain⟨WX,hWX⟩:∃W,W=w7.setCells w.heap.size 0 [.int .i64 0,.slice none 0 0,.slice none 0 0,.slice none 0 0]:=⟨_,rfl⟩;rw[<-hWX]at BX hfin;have HWX:Hid (WX=w7.setCells w.heap.size 0 [.int .i64 0,.slice none 0 0,.slice none 0 0,.slice none 0 0]):=hWX;have Hfin:Hid ((loadVar 41 ⟨w.heap.size,0,none⟩).run Tryz.prog WX=.ok (.agg #[.int .i64 0,.slice none 0 0,.slice none 0 0,.slice none 0 0]) WX):=hfin;clear hw7 hw7' hWX hfin T7 Bw7 T6 Bw6 T5 Bw5 rk B7 r7 t7;go_wp2_with (first|(with_reducible refine gst 41 ?_;refine Wg.out ?_));refine⟨?_⟩;refine wpList_store_mid rfl 41 _ _ rfl w.heap.size 0 #[.int .i64 0,.slice none 0 0,.slice none 0 0,.slice none 0 0] rfl rfl tz XG (by simp[Value.oneCell']) ?_;rw[List.toList_toArray,<-HWX.out];go_wp2_with fail;refine bodyPost_ret (v:=.tuple #[.agg #[.int .i64 0,.slice none 0 0,.slice none 0 0,.slice none 0 0],.int .i64 8]) (Xm Tryz.results10 rfl Hfin.out rfl) rfl ?_;exact⟨BX,Or.inl ⟨rfl,hbad⟩⟩
end
section
open Go.RowKit
open Bm
theorem Uw {f g:Nat->Bool}:∀u r,(∀x,r<=x->x<r+u->f x=g x)->Vf f u r=Vf g u r
 |0,r,_=>rfl
 |u+1,r,h=>by
  rw[Vf,Vf,h r (by omega) (by omega),Uw u (r+1) (fun x h1 h2=>h x (by omega) (by omega))]
theorem JV:∀u r,Vf (fun _=>false) u r=-1
 |0,r=>rfl
 |u+1,r=>by rw[Vf,JV u (r+1)];simp
theorem Sn {α:Type}{f g:α->Bool}:∀l:List α,(∀x∈l,f x=g x)->l.any f=l.any g
 |[],_=>rfl
 |a::l,h=>by rw[List.any_cons,List.any_cons,h a (by simp),Sn l (fun x hx=>h x (by simp[hx]))]
variable {l:List (N_)}{ls:List Nat}{b k m n:Nat}{F:N_}{bh hs:Nat->N_}
theorem Pl {f g:Nat->Bool}{P:Nat} (b:Nat) (h:∀p,p<P->f p=g p):YI hs bh f b P=YI hs bh g b P:=by
 funext q
 exact Sn _ (fun p hp=>by rw[h p (List.mem_range.1 hp)])
theorem II {P c:Nat} (f:Nat->Bool) (h:∀p,p<P->hs p b=hs p c):YI hs bh f b P=YI hs bh f c P:=by
 funext q
 exact Sn _ (fun p hp=>by rw[h p (List.mem_range.1 hp)])
theorem TT {P:Nat} (hP:P<=m):∀(w:List Nat) (f g:Nat->Bool),(∀q,q<m->f q=g q)->∀q,q<m->Xj hs bh P f w q=Xj hs bh P g w q
 |[],f,g,h,q,hq=>h q hq
 |b::w,f,g,h,q,hq=>by rw[Xj,Xj,Pl b (fun p hp=>h p (by omega))]
theorem LQ {P:Nat}:∀(w:List Nat) (q:Nat),Xj hs bh P (fun _=>false) w q=false
 |[],q=>rfl
 |b::w,q=>by
  rw[Xj,show YI hs bh (fun _=>false) b P=fun _=>false from by funext q;simp[YI]];exact LQ w q
theorem Ra {P:Nat} (j:Nat->Nat):∀(u:List Nat) (f:Nat->Bool),(∀b∈u,∀p,p<P->hs p (j b)=hs p b)->Xj hs bh P f (u.map j)=Xj hs bh P f u
 |[],f,_=>rfl
 |b::u,f,h=>by
  rw[List.map_cons,Xj,Xj,II f (h b (by simp)),Ra j u _ (fun c hc=>h c (by simp[hc]))]
theorem Lt {t:List Int}{P:Nat} (hP:P<=96) (h:VP (fun f b=>YI hs bh f b P) F ls l.length 0 l t):
  ∀(ks:List Nat) (s:Nat) (f:Nat->Bool),l[s]?=some f->(∀k∈ks,k<ls.length)->ext (Yf l t ls.length) s ks=Vf (fun r=>Xj hs bh P f (ks.map fun k=>ls.getD k 0) (96+r)) 8 0
 |[],s,f,hf,_=>by
  rw[ext_nil];show Vf (fun r=>(l.getD s R8) (96+r)) 8 0=_;rw[List.getD_eq_getElem?_getD,hf];rfl
 |k::ks,s,f,hf,hk=>by
  obtain⟨e1,e2,e3,e4,e5⟩:=h.size;have htl:t.length=l.length*ls.length:=by omega
  have hkl:=hk k (by simp);have hsl:=(List.getElem?_eq_some_iff.1 hf).1;have hi:s*ls.length+k<t.length:=by
   have:(s+1)*ls.length<=l.length*ls.length:=Nat.mul_le_mul_right _ hsl;rw[Nat.add_mul]at this;omega
  obtain⟨f',b,x,a1,a2,a3,a4⟩:=h.fnd.to s k hkl hi;rw[hf]at a1;cases a1;rw[ext_cons,show(Yf l t ls.length).to s k=x from by simp[Yf,List.getD_eq_getElem?_getD,a3],List.map_cons,show ls.getD k 0=b from by rw[List.getD_eq_getElem?_getD,a2];rfl];rcases a4 with ⟨a4,a5⟩|⟨j,g,c1,c2,c3⟩
  ·rw[a5,ext_none _ _ (by omega),<-JV 8 0];refine Uw 8 0 (fun r _ hr=>?_);have h1:=TT (hs:=hs) (bh:=bh) (P:=P) (m:=104) (by omega) (ks.map fun k=>ls.getD k 0) (YI hs bh f b P) (fun _=>false) (fun q hq=>(XV _ _ _).1 a4 q hq) (96+r) (by omega);rw[Xj,h1,LQ]
  ·rw[c1,Lt hP h ks j g c2 (fun q hq=>hk q (by simp[hq]))];refine Uw 8 0 (fun r _ hr=>?_);exact TT (hs:=hs) (bh:=bh) (P:=P) (m:=104) (by omega) _ _ _ (fun q hq=>(XV _ _ _).1 c3 q hq) (96+r) (by omega)
theorem Mo (hs:Nat->Nat->Bool) (P:Nat) {b:Nat} (hb:b<256):idx (Kq hs P) b<(Mn hs P).length/\∀p,p<P->hs p ((Mn hs P).getD (idx (Kq hs P) b) 0)=hs p b:=by
 have hE:=TD hs P 256;have h1:=idx_lt hE hb;refine⟨h1,fun p hp=>?_⟩;have h2:=reps_get (Kq hs P) 256 (least (Kq hs P) b) (by have:=least_le (Kq hs P) b;omega) (least_idem hE hb);have h3:(Mn hs P).getD (idx (Kq hs P) b) 0=least (Kq hs P) b:=by
  rw[List.getD_eq_getElem?_getD];unfold Mn idx;rw[h2];rfl
 rw[h3];exact(U0 hs P _ _).1 (least_like hE hb) p hp
theorem Ko {t:List Int}{P:Nat} (hP:P<=96) (h:VP (fun f b=>YI hs bh f b P) F (Mn hs P) l.length 0 l t) {s:Nat}{f:Nat->Bool} (hf:l[s]?=some f) (u:List Nat) (hu:∀b∈u,b<256):
  ext (Yf l t (Mn hs P).length) s (u.map (idx (Kq hs P)))=Vf (fun r=>Xj hs bh P f u (96+r)) 8 0:=by
 rw[Lt hP h _ s f hf (fun k hk=>by
  obtain⟨b,hb,rfl⟩:=List.mem_map.1 hk;exact(Mo hs P (hu b hb)).1),List.map_map]
 rw[Ra ((fun k=>(Mn hs P).getD k 0) ∘ idx (Kq hs P)) u f (fun b hb p hp=>(Mo hs P (hu b hb)).2 p hp)]
theorem IW {A:(Nat->Bool)->Nat->Nat->Bool}{s:Nat}{t:List Int} (h:VP A F ls s k l t):l[0]?=some F:=by
 induction h with
 |first=>rfl
 |@kind s k l t f b h hf hb hr ih=>
  obtain⟨u,hu⟩:=NL l (A f b);rw[hu,List.getElem?_append_left (by have:=(List.getElem?_eq_some_iff.1 ih).1;omega)];exact ih
 |set h hs ih=>exact ih
noncomputable def GA (es:Nat->Rx) (n:Nat) (w:List Nat):Int:=Vf (fun r=>Xj (XW es n) (VY es n) (YV es n) (XQ es n) w (96+r)) 8 0
variable {es:Nat->Rx}
theorem IX {t:List Int} (hP:YV es n<=96) (h:VP (VQ es n) (XQ es n) (Vh es n) l.length 0 l t) (u:List Nat) (hu:∀b∈u,b<256):
  ext (Yf l t (Vh es n).length) 0 (u.map (idx (Kq (XW es n) (YV es n))))=GA es n u:=
 Ko (s:=0) hP h (IW h) u hu
theorem MF:∀(m n:Nat) (φ:Nat->Nat),(∀i,i<n->φ i<m)->(∀i j,i<j->j<n->φ i≠φ j)->n<=m
 |0,n,φ,h,_=>by
  rcases Nat.eq_zero_or_pos n with h0|h0
  ·omega
  ·have:=h 0 h0;omega
 |m+1,n,φ,h,hi=>by
  by_cases hx:∃i,i<n/\φ i=m
  ·obtain⟨i,h1,h2⟩:=hx;have:=MF m (n-1) (fun j=>φ (if j<i then j else j+1)) (fun j hj=>by
    show φ (if j<i then j else j+1)<m;split
    ·have a:=h j (by omega);have b:=hi j i (by omega) h1;omega
    ·have a:=h (j+1) (by omega);have b:=hi i (j+1) (by omega) (by omega);omega) (fun j k hjk hk=>by
    show φ (if j<i then j else j+1)≠φ (if k<i then k else k+1);split
    ·split
     ·exact hi j k hjk (by omega)
     ·exact hi j (k+1) (by omega) (by omega)
    ·split
     ·omega
     ·exact hi (j+1) (k+1) (by omega) (by omega))
   omega
  ·have:=MF m n φ (fun i h1=>by
    have a:=h i h1;have b:φ i≠m:=fun e=>hx ⟨i,h1,e⟩
    omega) hi
   omega
structure Ff (P:Nat) (bh:Nat->Nat->Bool) (F:Nat->Bool) (l:List (Nat->Bool)):Prop where
 by_:∀(j:Nat) g,l[j]?=some g->0<j->∃u:Nat->Bool,(∃p,p<P/\u p=true)/\∀q,g q=(List.range P).any fun p=>u p&&bh p q
 ne:∀(i j:Nat) a b,i<j->l[i]?=some a->l[j]?=some b->Yn a b 104=false
theorem G9 {P:Nat}{s:Nat}{t:List Int} (h:VP (fun f b=>YI hs bh f b P) F ls s k l t):Ff P bh F l:=by
 induction h with
 |first=>
  refine⟨fun j g hj h0=>?_,fun i j a b hij _ hb=>?_⟩
  ·have:=(List.getElem?_eq_some_iff.1 hj).1;simp at this;omega
  ·have:=(List.getElem?_eq_some_iff.1 hb).1;simp at this;omega
 |@kind s k l t f b h hf hb hr ih=>
  unfold WW;split
  ·exact ih
  ·rename_i hne;split
   ·exact ih
   ·rename_i hnf;have hall:∀g∈l,Yn g (YI hs bh f b P) 104=false:=fun g hg=>by
     cases hx:Yn g (YI hs bh f b P) 104
     ·rfl
     ·exact absurd (List.findIdx_lt_length_of_exists ⟨g,hg,hx⟩) hnf
    refine⟨fun j g hj h0=>?_,fun i j a c hij ha hc=>?_⟩
    ·by_cases hl:j<l.length
     ·rw[List.getElem?_append_left hl]at hj;exact ih.by_ j g hj h0
     ·rw[List.getElem?_append_right (by omega)]at hj;have hg:g=YI hs bh f b P:=by
       have h1:=(List.getElem?_eq_some_iff.1 hj).1;have h2:j-l.length=0:=by simp at h1;omega
       rw[h2]at hj;simpa using hj.symm
      subst hg;refine⟨fun p=>f p&&hs p b,?_,fun q=>rfl⟩;have h3:¬ ∀q,q<104->YI hs bh f b P q=false:=fun h4=>hne ((XV _ _ _).2 (fun q hq=>h4 q hq))
      have h5:∃q,YI hs bh f b P q=true:=by
       refine Classical.byContradiction (fun h6=>h3 (fun q _=>?_));cases h7:YI hs bh f b P q
       ·rfl
       ·exact absurd ⟨q,h7⟩ h6
      obtain⟨q,h6⟩:=h5;unfold YI at h6;obtain⟨p,hp,h7⟩:=List.any_eq_true.1 h6;refine⟨p,List.mem_range.1 hp,?_⟩;simp only[Bool.and_eq_true]at h7 ⊢;exact h7.1
    ·by_cases hl:j<l.length
     ·rw[List.getElem?_append_left hl]at hc;rw[List.getElem?_append_left (by omega)]at ha;exact ih.ne i j a c hij ha hc
     ·rw[List.getElem?_append_right (by omega)]at hc;have h1:=(List.getElem?_eq_some_iff.1 hc).1;have h2:j-l.length=0:=by simp at h1;omega
      rw[h2]at hc;have hg:c=YI hs bh f b P:=by simpa using hc.symm
      subst hg;rw[List.getElem?_append_left (by omega)]at ha;exact hall a (List.mem_of_getElem? ha)
 |set h hs ih=>exact ih
theorem US {P:Nat}:∀(u v:List Nat) (f:Nat->Bool),Xj hs bh P f (u++v)=Xj hs bh P (Xj hs bh P f u) v
 |[],v,f=>rfl
 |b::u,v,f=>by rw[List.cons_append,Xj,Xj,US u v]
theorem G6 {P:Nat} (hP:P<=96) (hls:∀b∈ls,b<256) {s k:Nat}{l:List (Nat->Bool)}{t:List Int} (h:VP (fun f b=>YI hs bh f b P) F ls s k l t):
  ∀g∈l,∃u:List Nat,(∀b∈u,b<256)/\∀q,q<104->g q=Xj hs bh P F u q:=by
 induction h with
 |first=>
  intro g hg;rw[List.mem_singleton.1 hg];exact⟨[],fun b hb=>by simp at hb,fun q _=>rfl⟩
 |@kind s k l t f b h hf hb hr ih=>
  intro g hg;have key:∃u:List Nat,(∀b∈u,b<256)/\∀q,q<104->YI hs bh f b P q=Xj hs bh P F u q:=by
   obtain⟨u,h1,h2⟩:=ih f (List.mem_of_getElem? hf);refine⟨u++[b],fun c hc=>?_,fun q hq=>?_⟩
   ·rcases List.mem_append.1 hc with hc|hc
    ·exact h1 c hc
    ·rw[List.mem_singleton.1 hc];exact hls b (List.mem_of_getElem? hb)
   ·rw[US,Xj,Xj,Pl b (fun p hp=>h2 p (by omega))]
  unfold WW at hg;split at hg
  ·exact ih g hg
  ·split at hg
   ·exact ih g hg
   ·rcases List.mem_append.1 hg with h1|h1
    ·exact ih g h1
    ·rw[List.mem_singleton.1 h1];exact key
 |set h hs ih=>exact ih
theorem I7 {P:Nat} (hh:∀p,p<P->∃b,b<256/\hs p b=true) {p:Nat} (h:PJ P bh p):∀f:Nat->Bool,f p=true->∃(v:List Nat) (r:Nat),(∀b∈v,b<256)/\r<8/\Xj hs bh P f v (96+r)=true:=by
 induction h with
 |@last p r hp hr hb=>
  intro f hf;obtain⟨b,b1,b2⟩:=hh p hp;exact⟨[b],r,fun c hc=>by rw[List.mem_singleton.1 hc];exact b1,hr,(SP hs bh f b P _).2 ⟨p,hp,hf,b2,hb⟩⟩
 |@next p q hp hq hb _ ih=>
  intro f hf;obtain⟨b,b1,b2⟩:=hh p hp;obtain⟨v,r,v1,v2,v3⟩:=ih (YI hs bh f b P) ((SP hs bh f b P q).2 ⟨p,hp,hf,b2,hb⟩);exact⟨b::v,r,fun c hc=>by
   rcases List.mem_cons.1 hc with rfl|hc
   ·exact b1
   ·exact v1 c hc,v2,v3⟩
theorem PI (ws:Nat->List Nat) (h1:1<=n) (h8:n<=8) (hP:YV es n<=96) (hfu:∀k,k<n->(es k).Full) (hL:∀r,r<n->∀u,(∀b∈u,b<256)->(es r).Lg u->u=ws r) (hlen:∀r,r<n->(ws r).length<=8)
  {s k:Nat}{l:List (Nat->Bool)}{t:List Int} (h:VP (VQ es n) (XQ es n) (Vh es n) s k l t):l.length<=72:=by
 have hLN:=QT es n h1 h8 hP hfu;have hG:=QS es n h8 hP;have hls:∀b∈Vh es n,b<256:=fun b hb=>by
  obtain⟨i,hi,rfl⟩:=List.mem_iff_getElem.1 hb;exact Jd (List.getElem?_eq_getElem hi)
 have hrun:=G6 hP hls h;have hbits:=Nh hLN h;have hw:=G9 h;have hx:∀j:Nat,∃m:Nat,j<l.length->m<72/\∃r,r<n/\m/9=r/\∀q,q<104->(l.getD j R8) q=Xj (XW es n) (VY es n) (YV es n) (XQ es n) ((ws r).take (m%9)) q:=fun j=>by
  by_cases hj:j<l.length
  ·have hg:l.getD j R8∈l:=by
    rw[List.getD_eq_getElem?_getD,List.getElem?_eq_getElem hj];exact List.getElem_mem hj
   obtain⟨u,u1,u2⟩:=hrun _ hg;obtain⟨⟨q,q1,q2⟩,q3⟩:=hbits _ hg;have hv:∃(v:List Nat) (r:Nat),(∀b∈v,b<256)/\Xj (XW es n) (VY es n) (YV es n) (XQ es n) (u++v) (96+r)=true:=by
    by_cases e:q<96
    ·obtain⟨v,r,v1,v2,v3⟩:=I7 hLN.has (hG q (q3 q e q2)) _ q2;refine⟨v,r,v1,?_⟩;rw[US,<-TT (m:=104) (by omega) v _ _ u2 (96+r) (by omega)];exact v3
    ·refine⟨[],q-96,fun b hb=>by simp at hb,?_⟩;rw[List.append_nil,show 96+(q-96)=q by omega,<-u2 q q1];exact q2
   obtain⟨v,r,v1,v2⟩:=hv;obtain⟨hr,hLg⟩:=(NJ es n hP r (u++v)).1 v2;have e:=hL r hr (u++v) (fun b hb=>by
    rcases List.mem_append.1 hb with hb|hb
    ·exact u1 b hb
    ·exact v1 b hb) hLg
   have hl:=hlen r hr;rw[<-e,List.length_append]at hl;have hu:(ws r).take u.length=u:=by rw[<-e,List.take_left]
   refine⟨r*9+u.length,fun _=>⟨by omega,r,hr,by omega,fun q hq=>?_⟩⟩;rw[show(r*9+u.length)%9=u.length by omega,hu];exact u2 q hq
  ·exact⟨0,fun h=>absurd h hj⟩
 obtain⟨φ,hφ⟩:=Classical.axiomOfChoice hx;refine MF 72 l.length φ (fun j hj=>(hφ j hj).1) (fun i j hij hj e=>?_);obtain⟨_,r,_,a1,a2⟩:=hφ i (by omega);obtain⟨_,r',_,b1,b2⟩:=hφ j hj;rw[e,b1]at a1;subst a1;rw[e]at a2;have hi:i<l.length:=by omega
 have h2:=hw.ne i j _ _ hij (List.getElem?_eq_getElem hi) (List.getElem?_eq_getElem hj);have h3:Yn l[i] l[j] 104=true:=(XV _ _ _).2 (fun q hq=>by
  have x1:=a2 q hq;have x2:=b2 q hq;rw[List.getD_eq_getElem?_getD,List.getElem?_eq_getElem hi]at x1;rw[List.getD_eq_getElem?_getD,List.getElem?_eq_getElem hj]at x2;simp only[Option.getD_some]at x1 x2;rw[x1,x2])
 rw[h2]at h3;cases h3
theorem Ld (ws:Nat->List Nat) (h1:1<=n) (h8:n<=8) (hP:YV es n<=96) (hfu:∀k,k<n->(es k).Full) (hL:∀r,r<n->∀u,(∀b∈u,b<256)->(es r).Lg u->u=ws r) (hlen:∀r,r<n->(ws r).length<=8):
  (¬ ∃s k l t f b,VP (VQ es n) (XQ es n) (Vh es n) s k l t/\l[s]?=some f/\(Vh es n)[k]?=some b/\200<=WL l (VQ es n f b)) /\
  ∀l t,VP (VQ es n) (XQ es n) (Vh es n) l.length 0 l t->¬96<cnt (alB (Yf l t (Vh es n).length)) (Yf l t (Vh es n).length).N:=by
 constructor
 ·rintro ⟨s,k,l,t,f,b,k1,_,_,k4⟩;have hl:=PI ws h1 h8 hP hfu hL hlen k1;unfold WL at k4;split at k4
  ·omega
  ·have:=List.findIdx_le_length (xs:=l) (p:=fun g=>Yn g (VQ es n f b) 104);omega
 ·intro l t k1 k2;have hl:=PI ws h1 h8 hP hfu hL hlen k1;have h3:(Yf l t (Vh es n).length).N=l.length:=rfl;have h4:=cnt_le (alB (Yf l t (Vh es n).length)) (Yf l t (Vh es n).length).N;omega
end
section
open Bm
def Fl (P R:Nat) (g:Nat->Bool):Prop:=∀q,q<104->g q=true->q<P\/(96<=q/\q<96+R)
theorem K8 (es:Nat->Rx) (R:Nat) (_hP:YV es R<=96):Fl (YV es R) R (XQ es R):=fun q hq h=>by
 by_cases h1:q<96
 ·obtain⟨k,hk,hf⟩:=(VZ es R q h1).1 h;have h2:=(Rx.fst_rng _ _ _ hf).2;have h3:=X1 es (show k+1<=R from hk);simp only[YV]at h3;exact Or.inl (by omega)
 ·have e:=Su es R (q-96);rw[show 96+(q-96)=q by omega,h]at e;have:q-96<R:=by
   have:=e.symm;simp only[Bool.and_eq_true,decide_eq_true_eq]at this;exact this.1
  exact Or.inr (by omega)
theorem JR (es:Nat->Rx) (R:Nat) (_hP:YV es R<=96) (f:Nat->Bool) (b:Nat):Fl (YV es R) R (VQ es R f b):=fun q hq h=>by
 unfold VQ YI at h;obtain⟨p,hp,h1⟩:=List.any_eq_true.1 h;have hp':=List.mem_range.1 hp;simp only[Bool.and_eq_true]at h1;obtain⟨k,k1,k2,k3⟩:=OK es R p hp';have h2:=h1.2;rw[Vd es R k p q k1 k2 k3]at h2;simp only[Bool.or_eq_true,Bool.and_eq_true,decide_eq_true_eq]at h2;rcases h2 with h2|⟨h2,_⟩
 ·have h3:=(Rx.fol_rng _ _ _ _ h2).2.2.2;have h4:=X1 es (show k+1<=R from k1);simp only[YV]at h4;exact Or.inl (by omega)
 ·exact Or.inr (by omega)
theorem Rk {f:Nat->Bool}:∀(u d r:Nat),(∀x,r+u<=x->x<r+u+d->f x=false)->Vf f (u+d) r=Vf f u r
 |0,0,r,_=>rfl
 |0,d+1,r,h=>by
  have:=Rk 0 d (r+1) (fun x h1 h2=>h x (by omega) (by omega));rw[Nat.zero_add]at this ⊢;show(if f r then (r:Int) else Vf f d (r+1))=-1;rw[h r (by omega) (by omega),if_neg (by simp),this];rfl
 |u+1,d,r,h=>by
  rw[show u+1+d=(u+d)+1 by omega,Vf,Vf];split
  ·rfl
  ·exact Rk u d (r+1) (fun x h1 h2=>h x (by omega) (by omega))
open Go.RowKit
open Pg (Pt)
theorem Mu (v:Value) (e r a:Int) (w:World) (he:e≠0) (hC:∀W,Below w.heap.size w W->Calls Tryz.prog 37 #[v] W fun e' w'=>e'=.returned (.tuple #[.int .i64 e,.int .i64 r,.int .i64 a])/\Below W.heap.size W w'):
  Calls Tryz.prog 10 #[v] w fun en w'=>en=.returned (.tuple #[.agg UY.toArray,.int .i64 e])/\Below w.heap.size w w':=by
 have hz:=Vv;have hz2:=Tz;have hq2:(e != 0)=true:=by simp[he]
 obtain⟨W0,hW0⟩:=nam (w.alloc (.cells #[.int .i64 0,.slice none 0 0,.slice none 0 0,.slice none 0 0] 41));have T0:TC w.heap.size UY W0:=by rw[hW0];exact TC.boxed w UY _
 have B0:Below w.heap.size w W0:=by rw[hW0];exact box_bel _ _
 have hs0:W0.heap.size=w.heap.size+1:=by rw[hW0];simp
 have HOf:=hyd (Gm v e r a W0 he (fun W hW=>hC W (B0.trans (hW.mono (by omega)))));have HW0:=hyd hW0;have Hs0:=hyd hs0;clear hW0 hs0 hC he;go_enter Tryz.func10,Tryz.ntmps10;go_wp2_with fail;rw[<-HW0.out];refine HOf.out.mono ?_;rintro en w2 ⟨rfl,B2⟩;have z2:w.heap.size+1<=w2.heap.size:=by have:=Hs0.out;have:=B2.size;omega
 have T2:=T0.block (B2.block _ (by have:=Hs0.out;omega));have Bw2:Below w.heap.size w w2:=B0.trans (B2.mono (by have:=Hs0.out;omega));obtain⟨Z,hZ⟩:=nam XX;rw[<-hZ];have HZ:Hid (Z.length=106):=by show _=_;rw[hZ];exact V0 _ _ _
 have HOZ:Hid (Z.toArray.all (·.oneCell')=true):=by show _=true;rw[hZ];exact SZ rfl rfl _
 clear hZ B2 B0 T0 HOf HW0;go_wp2_with (first|(with_reducible refine gst 64 ?_;refine Wg.out ?_));refine⟨?_⟩;obtain⟨w3,hw3⟩:=nam ((w2.alloc (.cells XX.toArray 64)).setCells w2.heap.size 0 Z);have hbo:=VV w2 XX Z 64 (by rw[HZ.out];exact(V0 _ _ _).symm);rw[<-hw3]at hbo;obtain⟨B3,r3,s3,t3⟩:=hbo;refine wpList_store_mid rfl 64 _ _ rfl w2.heap.size 0 Z.toArray rfl rfl (by simpa using t3) (by simpa[HZ.out]using Wx) HOZ.out ?_;rw[List.toList_toArray,<-hw3];have T3:=T2.block (B3.block _ (by omega));have Bw3:Below w.heap.size w w3:=Bw2.trans (B3.mono (by omega));obtain⟨tz,BX,hfin,_⟩:=Up (.int .i64 0) (.slice none 0 0) (.slice none 0 0) (.slice none 0 0) T3 Bw3;obtain⟨WX,hWX⟩:=nam (w3.setCells w.heap.size 0 [.int .i64 0,.slice none 0 0,.slice none 0 0,.slice none 0 0]);rw[<-hWX]at BX hfin;have HWX:=hyd hWX;have Hfin:=hyd hfin;clear hw3 hWX hfin T3 Bw3 T2 Bw2 B3 r3 s3 t3 z2 HZ HOZ;go_wp2_with (first|(with_reducible refine gst 41 ?_;refine Wg.out ?_));refine⟨?_⟩;refine wpList_store_mid rfl 41 _ _ rfl w.heap.size 0 #[.int .i64 0,.slice none 0 0,.slice none 0 0,.slice none 0 0] rfl rfl tz XG (by simp[Value.oneCell']) ?_;rw[List.toList_toArray,<-HWX.out];go_wp2_with fail;refine bodyPost_ret (v:=.tuple #[.agg #[.int .i64 0,.slice none 0 0,.slice none 0 0,.slice none 0 0],.int .i64 e]) (Xm Tryz.results10 rfl Hfin.out rfl) rfl ?_;exact⟨rfl,BX⟩
end
end Go.Proofs.YtoaaklhpmhjhkabGreat
