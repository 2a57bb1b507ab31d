import Derived.Test.YtoaaklhpmhjhkabC30
set_option maxRecDepth 100000
set_option maxHeartbeats 4000000
set_option linter.all false
namespace Go.Proofs.Ytoaaklhpmhjhkab
open Go.RowKit
open Bm
variable {l : List (Nat → Bool)}{fs ls : List Nat}{L : List Value}{S b base base' gb i k m n nb s : Nat}{F f : Nat → Bool}{E : Nat → Nat → Bool}{rw : Nat → Nat → Int}{v vb vh vl vs vt : Value}{W w : World}
theorem Xh.hs {f:Nat->Nat->Bool} (h:Xh base v (Wq n f) w):∃ha hc,v=.slice ha n hc/\HS ha f n w:=by
 obtain⟨ad,cap,e,h1⟩:=h.at_;rw[X3]at e;refine⟨ad,cap,e,fun p b hp hb=>?_⟩;obtain⟨g,e1,h2⟩:=h1 p _ (Uc f hp);exact⟨g,0,e1,by rw[Nat.zero_add];exact h2 b _ (YN _ hb)⟩
theorem Ya.bh {f:Nat->Nat->Bool} (h:Ya base v (Wq n f) w):∃ba bc,v=.slice ba n bc/\BH ba f n w:=by
 obtain⟨ad,cap,e,h1⟩:=h.at_;rw[X3]at e;refine⟨ad,cap,e,fun p hp=>?_⟩;obtain⟨g,e1,h2⟩:=h1 p _ (Uc f hp);exact⟨g,0,e1,by rw[Nat.zero_add];exact h2⟩
theorem Ya.sr (h:Ya base v l w):∃sa sc,v=.slice sa l.length sc/\SR sa (fun i r=>(l.getD i Sl) (96+r)) l.length w:=by
 obtain⟨ad,cap,e,h1⟩:=h.at_;refine⟨ad,cap,e,fun i hi=>?_⟩;obtain⟨g,e1,h2⟩:=h1 i _ (List.getElem?_eq_getElem hi);refine⟨g,0,e1,fun r hr=>?_⟩;have:=h2 (96+r) _ (YN _ (by omega));show w.cell? ⟨g,0+i*104+96+r,none⟩=some (.bool ((l.getD i Sl) (96+r)));rw[Nat.zero_add,Nat.add_assoc,List.getD_eq_getElem?_getD,List.getElem?_eq_getElem hi];exact this
theorem WF.lb {l:List Nat} (h:WF base v l w) (hb:∀(k b:Nat),l[k]?=some b->b<256):∃la lc,v=.slice la l.length lc/\LB la l w:=by
 obtain⟨ad,cap,e,h1⟩:=h.at_;refine⟨ad,cap,e,fun k b hk=>?_⟩;obtain⟨g,e1,h2⟩:=h1 k b hk;exact⟨hb k b hk,g,0,e1,by rw[Nat.zero_add];exact h2⟩
def MZ (hs:Nat->Nat->Bool) (P:Nat):List Nat:=reps (Kq hs P) 256
variable {hs : Nat → Nat → Bool}
theorem G6 {P:Nat} (h:(MZ hs P)[k]?=some b):b<256:=(reps_mem h).1
theorem UD (hs:Nat->Nat->Bool) (P:Nat):0<(MZ hs P).length/\(MZ hs P).length<=256:=
 ⟨Nat.lt_of_le_of_lt (Nat.zero_le _) (idx_lt (TW hs P 256) (a:=0) (by omega)),cnt_le _ _⟩
theorem Oe (hs:Nat->Nat->Bool) (P:Nat):Gy hs P (MZ hs P):=fun b hb=>by
 have hE:=TW hs P 256;have h1:=idx_lt hE hb;obtain⟨c,hc⟩:∃c,(MZ hs P)[idx (Kq hs P) b]?=some c:=⟨(MZ hs P)[idx (Kq hs P) b]'h1,List.getElem?_eq_getElem _⟩;obtain⟨a1,a2,a3⟩:=reps_mem hc;have:idx (Kq hs P) c=idx (Kq hs P) b:=by rw[idx_rep a2,a3]
 exact⟨_,c,hc,(Vi hs P c b).1 ((idx_eq hE a1 hb).1 this)⟩
variable {bh : Nat → Nat → Bool}
theorem JW {P:Nat} (hr:w.rangeAt nb 0 (QB vh vb F)) (hH:Xh base vh (Wq P hs) w) (hB:Ya base' vb (Wq P bh) w):∃ha hc ba bc,NR nb ha hc P hs ba bc bh F w:=by
 obtain⟨ha,hc,rfl,h1⟩:=hH.hs;obtain⟨ba,bc,rfl,h2⟩:=hB.bh;refine⟨ha,hc,ba,bc,by simpa using hr 0 _ rfl,by simpa using hr 1 _ rfl,fun j v hv=>?_,h1,h2⟩;have:=hr (2+j) v (by rw[Nat.add_comm];exact hv);simpa using this
theorem Lv {kb:Nat}{f:Nat->Int} (hr:w.rangeAt kb 0 (Yo f vl)):w.rangeAt kb 0 (kl f)/\w.cell? ⟨kb,256,none⟩=some vl:=by
 refine⟨fun j v hv=>hr j v ?_,by simpa using hr 256 vl (Xe f vl)⟩;have hj:j<256:=by have:=(List.getElem?_eq_some_iff.1 hv).1;rw[JR]at this;exact this
 rw[WJ f vl j hj];simp[kl,hj]at hv;rw[hv]
theorem MU {A:(Nat->Bool)->Nat->Nat->Bool}{t:List Int} (hK:0<ls.length) (h:Vz A F ls l.length 0 l t) (hS:Ya base vs l w) (hT:OwnL base vt t w) (hr:w.rangeAt gb 0 [.int .i64 ls.length,vs,vt]):∃ta tc sa sc,Gr gb (Yb l t ls.length) ta tc (.slice sa l.length sc) w/\SR sa (fun i r=>(l.getD i Sl) (96+r)) l.length w:=by
 obtain⟨sa,sc,rfl,h1⟩:=hS.sr;obtain⟨ta,tc,rfl,h2⟩:=hT.il;obtain⟨_,_,e3,_⟩:=h.size;have htl:t.length=l.length*ls.length:=by omega
 refine⟨ta,tc,sa,sc,⟨by show _=some (Value.int .i64 (ls.length:Int));simpa using hr 0 _ rfl,by simpa using hr 1 _ rfl,?_,?_⟩,h1⟩
 ·have:=hr 2 _ rfl;rw[htl]at this;show _=some (Value.slice ta (l.length*ls.length) tc);simpa using this
 ·show IL ta (fl (Yb l t ls.length)) (l.length*ls.length) w;rw[<-htl];intro i hi;obtain⟨b,o,e,hc⟩:=h2 i hi;refine⟨b,o,e,?_⟩;rw[QV _ _ _ _ hK,List.getD_eq_getElem?_getD,List.getElem?_eq_getElem hi];simpa[List.getD_eq_getElem?_getD,List.getElem?_eq_getElem hi]using hc
open Pg (Pt)
def Sk:List Value:=[.int .i64 0,.slice none 0 0,.slice none 0 0,.slice none 0 0]
def Us (es:Nat->Rx) (n:Nat) (f:Nat->Bool) (b:Nat):Nat->Bool:=YC (XN es n) (VQ es n) f b (YR es n)
def TV (es:Nat->Rx) (n:Nat):List Nat:=MZ (XN es n) (YR es n)
def If (es:Nat->Rx) (n:Nat) (b:Nat):Int:=idxI (Kq (XN es n) (YR es n)) b
def Jg (es:Nat->Rx) (n:Nat) (w:World) (en:Ending) (w':World):Prop:=
 Below w.heap.size w w' /\
 ((en=.returned (.tuple #[.agg Sk.toArray,.int .i64 8])/\∃s k l t f b,Vz (Us es n) (Xx es n) (TV es n) s k l t/\l[s]?=some f/\(TV es n)[k]?=some b/\200<=Wx l (Us es n f b)) \/
  ∃l t A,A=Yb l t (TV es n).length/\Vz (Us es n) (Xx es n) (TV es n) l.length 0 l t /\
  ((96<cnt (alB A) A.N/\en=.returned (.tuple #[.agg Sk.toArray,.int .i64 9])) \/
   (¬96<cnt (alB A) A.N/\∃vc vl vn kf,en=.returned (.tuple #[.agg #[.int .i64 n,vc,vl,vn],.int .i64 0])/\(∀b,b<256->kf b=If es n b) /\
   OwnL w.heap.size vc (Xy (Cl (YU A (alB A)) (cnt (alB A) A.N)) kf 256) w'/\OwnL w.heap.size vl (Xp A (alB A) (cnt (alB A) A.N)) w'/\OwnL w.heap.size vn (WY (YU A (alB A)) (reps (Cl (YU A (alB A)) (cnt (alB A) A.N)) A.K) (cnt (alB A) A.N)) w' /\
   (∀k,vc.ownBlock=some k->vl.ownBlock≠some k)/\(∀k,vc.ownBlock=some k->vn.ownBlock≠some k)/\(∀k,vl.ownBlock=some k->vn.ownBlock≠some k))))
theorem VD (w:World) (Z0 Z:List Value) (ty:TypeId) (hl:Z.length=Z0.length):Below w.heap.size w ((w.alloc (.cells Z0.toArray ty)).setCells w.heap.size 0 Z)/\((w.alloc (.cells Z0.toArray ty)).setCells w.heap.size 0 Z).rangeAt w.heap.size 0 Z/\w.heap.size+1<=((w.alloc (.cells Z0.toArray ty)).setCells w.heap.size 0 Z).heap.size/\(w.alloc (.cells Z0.toArray ty)).there w.heap.size 0 Z.length:=by
 have T:=(TC.boxed w Z0 ty).there;rw[<-hl]at T;have hG:=Y4 w.heap.size Z 0 (w.alloc (.cells Z0.toArray ty));have B:=box_bel w (.cells Z0.toArray ty);have hs:(w.alloc (.cells Z0.toArray ty)).heap.size=w.heap.size+1:=by simp
 refine⟨B.grown hG B.size (fun q hq=>by cases hq;omega),World.rangeAt_setCells_same _ _ 0 Z T,?_,T⟩;have:=hG.size;omega
theorem I5 {t:Nat} (hth:w.there t 0 L.length):TC t L (w.setCells t 0 L):=fun k v hv=>by
 have h1:=World.rangeAt_setCells_same w t 0 L hth k v hv;have hk:=(List.getElem?_eq_some_iff.1 hv).1;have h2:=(hth k hk).2;rw[Nat.zero_add]at h1 h2;refine⟨h1,?_⟩;rw[World.frozen?_setCells];exact h2
theorem Te (a b c d:Value) (T:TC w.heap.size Sk W) (B:Below w.heap.size w W):W.there w.heap.size 0 4/\Below w.heap.size w (W.setCells w.heap.size 0 [a,b,c,d])/\(loadVar 24 ⟨w.heap.size,0,none⟩).run Try.prog (W.setCells w.heap.size 0 [a,b,c,d])=.ok (.agg #[a,b,c,d]) (W.setCells w.heap.size 0 [a,b,c,d])/\W.grownBy (W.setCells w.heap.size 0 [a,b,c,d]) (some w.heap.size):=by
 have t:=T.there;have hG:=Y4 w.heap.size [a,b,c,d] 0 W;exact⟨t,B.grown hG B.size (fun q hq=>by cases hq;omega),run_loadVar_mid (P:=Try.prog) _ w.heap.size 0 24 [a,b,c,d] _ (World.rangeAt_setCells_same W w.heap.size 0 [a,b,c,d] t) Try.underlying24 rfl Xv,hG⟩
theorem Lz (b off cap n:Nat) (f:Nat->ByteArray) (w:World) (h1:1<=n) (h8:n<=8) (hb:b<w.heap.size) (hm:∀i,i<n->(f i).size<=maxLen) (hr:MH b off f n w) (hok:∀j,j<n->(Pg.wrong (Y5 (f j)) (f j).size).1=0) (hsum:¬96<XV (fun j=>Ym (f j)) n):
  Calls Try.prog 35 #[.slice (some ⟨b,off,none⟩) n cap] w (Jg (fun j=>VM (f j)) n w):=by
 have hz:=Tr;have hz2:=Pa;have hz3:=RT;have hz4:=RR;have hz5:=Ts;obtain⟨W0,hW0⟩:∃W,W=w.alloc (.cells #[.int .i64 0,.slice none 0 0,.slice none 0 0,.slice none 0 0] 24):=⟨_,rfl⟩;have T0:TC w.heap.size Sk W0:=by rw[hW0];exact TC.boxed w Sk _
 have B0:Below w.heap.size w W0:=by rw[hW0];exact box_bel _ _
 have hs0:W0.heap.size=w.heap.size+1:=by rw[hW0];simp
 obtain⟨es,hes⟩:∃es:Nat->Rx,es=fun j=>VM (f j):=⟨_,rfl⟩
 have hrd:∀j,j<n->(Pg.readParts (Y5 (f j)) (f j).size).ok=true:=fun j hj=>((Xf (f j)).2 (hok j hj)).2.2
 have hNs:=(Py es (fun j=>Ym (f j)) n (fun i hi=>by rw[hes];exact Tf (f i) (hrd i hi)) hsum).2;have HL:Hid (RV (YR es n) (XN es n) (VQ es n) (Xx es n)):=OA es n h1 h8 hNs (fun k hk=>by rw[hes];exact Mx (f k) (hok k hk));have HGo:Hid (∀p,p<YR es n->Pd (YR es n) (VQ es n) p):=Oy es n h8 hNs;have HOf:Hid (Calls Try.prog 57 #[.slice (some ⟨b,off,none⟩) n cap] W0 (Jh es n W0)):=by
  show Calls _ _ _ _ _;rw[hes];exact GE b off cap n f W0 h1 h8 (by omega) hm (hr.below hb B0) hok hsum
 have HW0:Hid (W0=w.alloc (.cells #[.int .i64 0,.slice none 0 0,.slice none 0 0,.slice none 0 0] 24)):=hW0;rw[<-hes];have Hs0:Hid (W0.heap.size=w.heap.size+1):=hs0;have HN:Hid (YR es n<=96):=hNs;have hn8:(n:Int)<=8:=by omega
 clear hW0 hes hrd hNs hs0 hr hok hsum hm;go_enter Try.func35,Try.ntmps35;go_wp2_with fail;rw[<-HW0.out];refine HOf.out.mono ?_;rintro en w2 ⟨vh,vb,rfl,OH,OB,B2⟩;have HOH:Hid (Xh W0.heap.size vh (Wq (YR es n) (XN es n)) w2/\Ya W0.heap.size vb (Wq (YR es n) (VQ es n)) w2/\Below w.heap.size w w2/\TC w.heap.size Sk w2/\w.heap.size+1<=w2.heap.size):=⟨OH,OB,B0.trans (B2.mono (by have:=Hs0.out;omega)),T0.block (B2.block _ (by have:=Hs0.out;omega)),by have:=Hs0.out;have:=B2.size;omega⟩;obtain⟨Z,hZ⟩:∃Z,Z=QB vh vb (Xx es n):=⟨_,rfl⟩;rw[<-hZ];have HZZ:Hid (Z=QB vh vb (Xx es n)):=hZ;have HZ:Hid (Z.length=106):=by show _=_;rw[hZ];exact TJ _ _ _
 have hone1:vh.oneCell'=true:=by obtain⟨a1,c1,e1,_⟩:=OH.at_;rw[e1];rfl
 have hone2:vb.oneCell'=true:=by obtain⟨a1,c1,e1,_⟩:=OB.at_;rw[e1];rfl
 have HOZ:Hid (Z.toArray.all (·.oneCell')=true):=by show _=true;rw[hZ];exact Ox hone1 hone2 _
 clear OH OB B2 hZ hone1 hone2 B0 T0 HOf HW0;go_wp2_with (first|(with_reducible refine gst 115 ?_;refine Vl.out ?_));refine⟨?_⟩;obtain⟨w3,hw3⟩:∃W,W=(w2.alloc (.cells Ud.toArray 115)).setCells w2.heap.size 0 Z:=⟨_,rfl⟩;have hbo:=VD w2 Ud Z 115 (by rw[HZ.out];exact(TJ _ _ _).symm);rw[<-hw3]at hbo;obtain⟨B3,r3,s3,t3⟩:=hbo;obtain⟨OH,OB,Bw2,T2,z2⟩:=HOH.out;refine wpList_store_mid rfl 115 _ _ rfl w2.heap.size 0 Z.toArray rfl rfl (by simpa using t3) (by simpa[HZ.out]using TG) HOZ.out ?_;rw[List.toList_toArray,<-hw3];rw[HZZ.out]at r3;obtain⟨ha,hc,ba,bc,N3⟩:=JW r3 (OH.below B3) (OB.below B3);have Bw3:Below w.heap.size w w3:=Bw2.trans (B3.mono (by omega));have T3:=T2.block (B3.block _ (by omega));have HKi:Hid (Calls Try.prog 58 #[.pointer (some ⟨w2.heap.size,0,none⟩)] w3 (NB (Kq (XN es n) (YR es n)) w3)):=Og w2.heap.size ha hc (YR es n) (XN es n) w3 HN.out N3.c0 N3.h;have HN3:Hid (NR w2.heap.size ha hc (YR es n) (XN es n) ba bc (VQ es n) (Xx es n) w3):=N3;have HW3:Hid (Below w.heap.size w w3/\TC w.heap.size Sk w3/\w2.heap.size+1<=w3.heap.size/\w.heap.size+1<=w2.heap.size):=⟨Bw3,T3,s3,z2⟩;clear hw3 OH OB Bw2 T2 t3 r3 N3 Bw3 T3 B3 HOH HOZ HZ HZZ s3 z2;go_wp2_with fail;refine HKi.out.mono ?_;rintro en w4 ⟨kf,vl,rfl,hkf,OU,B4⟩;obtain⟨Kc,hKc⟩:∃K,K=Yo kf vl:=⟨_,rfl⟩;rw[<-hKc];have HKl:Hid (Kc.length=257):=by show _=_;rw[hKc];exact XH _ _
 obtain⟨la,lc,evl,LB4⟩:=OU.lb (fun k b hk=>G6 hk);have HK1:Hid (Kc.toArray.all (·.oneCell')=true):=by
  show _=true;rw[hKc,evl,List.all_toArray];simp[Yo,Value.oneCell']
 have HKc:Hid (Kc=Yo kf vl):=hKc;clear hKc;go_wp2_with (first|(with_reducible refine gst 120 ?_;refine Vl.out ?_));refine⟨?_⟩;obtain⟨w5,hw5⟩:∃W,W=(w4.alloc (.cells (Yo (fun _=>0) (.slice none 0 0)).toArray 120)).setCells w4.heap.size 0 Kc:=⟨_,rfl⟩;have hbo:=VD w4 (Yo (fun _=>0) (.slice none 0 0)) Kc 120 (by rw[HKl.out,XH]);rw[<-hw5]at hbo;obtain⟨B5,r5,s5,t5⟩:=hbo;refine wpList_store_mid rfl 120 _ _ rfl w4.heap.size 0 Kc.toArray rfl rfl (by simpa using t5) (by simpa[HKl.out]using Vr) HK1.out ?_;rw[List.toList_toArray,<-hw5];obtain⟨Bw3,T3,z3,z2⟩:=HW3.out;have z4:=B4.size;rw[HKc.out]at r5;obtain⟨rk,ck⟩:=Lv r5;rw[evl]at ck;obtain⟨m,hm⟩:∃m,m=(TV es n).length:=⟨_,rfl⟩;have hmm:m=(reps (Kq (XN es n) (YR es n)) 256).length:=hm;rw[<-hmm]at ck;have hm2:m<=256:=by rw[hm];exact(UD _ _).2
 have N5:=(HN3.out.below B4).below B5;have Bw5:Below w.heap.size w w5:=(Bw3.trans (B4.mono (by omega))).trans (B5.mono (by omega));have T5:=(T3.block (B4.block _ (by omega))).block (B5.block _ (by omega));have HEx:Hid (Calls Try.prog 59 #[.pointer (some ⟨w2.heap.size,0,none⟩),.slice la m lc] w5 (Je (Us es n) (Xx es n) (TV es n) w5)):=by
  show Calls _ _ _ _ _;rw[hm];exact NV w2.heap.size ha hc (YR es n) (XN es n) ba bc (VQ es n) (Xx es n) la lc (TV es n) w5 HN.out (UD _ _).2 N5 (LB4.below B5)
 have HW5:Hid (Below w.heap.size w w5/\TC w.heap.size Sk w5/\w4.heap.size+1<=w5.heap.size/\w.heap.size+1<=w4.heap.size/\w5.rangeAt w4.heap.size 0 (kl kf)):=⟨Bw5,T5,s5,by omega,rk⟩;have Hm:Hid (m=(TV es n).length):=hm;have Hkf:Hid (∀b,b<256->kf b=If es n b):=hkf;clear hw5 r5 rk B5 s5 t5 Bw3 T3 z3 z2 z4 N5 Bw5 T5 hm hmm hkf evl OU LB4 B4 HK1 HKl HKc HKi HN3 HW3;go_wp2_with fail;refine HEx.out.mono ?_;rintro en w6 ⟨B6,hcase⟩;obtain⟨Bw5,T5,z5,z4,rk⟩:=HW5.out;have T6:=T5.block (B6.block _ (by omega));have Bw6:Below w.heap.size w w6:=Bw5.trans (B6.mono Bw5.size);rcases hcase with ⟨vs,vt,l,t,rfl,hE,OS,OL⟩|⟨rfl,hbad⟩
 ·rw[<-Hm.out];go_wp2_with (first|(with_reducible refine gst 124 ?_;refine Vl.out ?_));refine⟨?_⟩;obtain⟨w7,hw7⟩:∃W,W=(w6.alloc (.cells Qx.toArray 124)).setCells w6.heap.size 0 [.int .i64 m,vs,vt]:=⟨_,rfl⟩;have hbo:=VD w6 Qx [.int .i64 m,vs,vt] 124 rfl;rw[<-hw7]at hbo;obtain⟨B7,r7,s7,t7⟩:=hbo;obtain⟨_,_,evs,_⟩:=OS.at_;obtain⟨_,_,evt,_⟩:=OL.il;refine wpList_store_mid rfl 124 _ _ rfl w6.heap.size 0 #[.int .i64 m,vs,vt] rfl rfl t7 Xk (by simp[evs,evt,Value.oneCell']) ?_;rw[List.toList_toArray];have hw7':w7=(w6.alloc (.cells #[.int .i64 0,.slice none 0 0,.slice none 0 0] 124)).setCells w6.heap.size 0 [.int .i64 m,vs,vt]:=hw7;rw[<-hw7'];have z6:=B6.size;have T7:=T6.block (B7.block _ (by omega));have Bw7:Below w.heap.size w w7:=Bw6.trans (B7.mono Bw6.size);rw[Hm.out]at r7;obtain⟨ta,tc,sa,sc,G7,S7⟩:=MU (UD _ _).1 hE (OS.below B7) (OL.below B7) r7;have rk7:w7.rangeAt w4.heap.size 0 (kl kf):=fun j v hv=>by
   have h:=rk j v hv;rw[B7.cell (p:=⟨w4.heap.size,0+j,none⟩) (by show w4.heap.size<w6.heap.size;omega),B6.cell (p:=⟨w4.heap.size,0+j,none⟩) (by show w4.heap.size<w5.heap.size;omega)];exact h
  obtain⟨A,hA⟩:∃A,A=Yb l t (TV es n).length:=⟨_,rfl⟩;have hE':=hE.size;have hAs:Aut.Small A:=by rw[hA];exact⟨hE'.2.1,(UD _ _).2⟩
  have hGd:A.Good:=by rw[hA];exact QW HL.out HGo.out (Oe _ _) hE
  have hAN:A.N=l.length:=by rw[hA];rfl
  have hAK:A.K=(TV es n).length:=by rw[hA];rfl
  have hvd:∀i,i<A.N->A.vd i=Vb ((fun i r=>(l.getD i Sl) (96+r)) i) 8 0:=fun i _=>by rw[hA];rfl
  rw[show Yb l t (MZ (XN es n) (YR es n)).length=A from hA.symm,<-hAN]at G7;rw[<-hAN]at S7;obtain⟨rl,hrl⟩:∃rl:Nat->Nat->Bool,rl=fun i r=>(l.getD i Sl) (96+r):=⟨_,rfl⟩
  rw[<-hrl]at S7 hvd;have hkK:∀b,b<256->0<=kf b/\kf b<A.K:=fun b hb=>by
   have h1:=idx_lt (TW (XN es n) (YR es n) 256) hb;rw[Hkf.out b hb,hAK];have h2:If es n b=(idx (Kq (XN es n) (YR es n)) b:Int):=rfl;have h3:(TV es n).length=cnt (Kq (XN es n) (YR es n)) 256:=rfl;omega
  have HAl:Hid (Calls Try.prog 60 #[.pointer (some ⟨w6.heap.size,0,none⟩)] w7 (Tw (alB A) A.N w7)):=KZ w6.heap.size A ta tc sa sc rl w7 hAs hGd (by omega) G7 S7 hvd;have HMo:Hid (∀(vo vf:Value) (b1 b2:Nat) (W:World),Below w7.heap.size w7 W->OwnL b1 vo (Wh (alB A) A.N) W->OwnL b2 vf (YL (alB A) A.N) W->Calls Try.prog 61 #[.pointer (some ⟨w6.heap.size,0,none⟩),.pointer (some ⟨w4.heap.size,0,none⟩),.agg #[vo,vf]] W (QR A (alB A) kf W)):=fun vo vf b1 b2 W hW ho hf=>
   Qy w6.heap.size A ta tc sa sc rl w4.heap.size kf (alB A) b1 b2 vo vf W hAs hGd.rng (G7.below hW) (S7.below hW) hvd (fun j v hv=>by
    rw[hW.cell (p:=⟨w4.heap.size,0+j,none⟩) (by show w4.heap.size<w7.heap.size;omega)];exact rk7 j v hv) hkK ho hf
  have HAx:Hid (A=Yb l t (TV es n).length/\Vz (Us es n) (Xx es n) (TV es n) l.length 0 l t):=⟨hA,hE⟩;have HW7:Hid (Below w.heap.size w w7/\TC w.heap.size Sk w7/\w.heap.size+1<=w7.heap.size):=⟨Bw7,T7,by omega⟩;have HAN:Hid (A.N<=200):=hAs.n;clear hw7 hw7' T7 Bw7 T6 Bw6 T5 Bw5 rk rk7 B7 r7 t7 hA hE' hAs hGd hAN hAK hvd G7 S7 hrl hkK hE OS OL evs evt z6 s7 B6 z5 z4 HW5 HEx;go_wp2_with fail;refine HAl.out.mono ?_;rintro en w8 ⟨vo,vf,rfl,Oo,Of,hne,B8⟩;obtain⟨fa,fc,evf,_⟩:=Of.il;rw[Yx]at evf;obtain⟨C,hC⟩:∃C,C=cnt (alB A) A.N:=⟨_,rfl⟩;rw[<-hC]at evf;have Hone:Hid ((#[vo,vf]:Array Value).all (·.oneCell')=true):=by
   obtain⟨_,_,evo,_⟩:=Oo.il;show _=true;simp[evo,evf,Value.oneCell']
  have Hevf:Hid (vf=.slice fa C fc):=evf;have HC:Hid (C=cnt (alB A) A.N):=hC;clear evf hC;go_wp2_with (first|(with_reducible refine gst 128 ?_;refine Vl.out ?_));refine⟨?_⟩;obtain⟨w9,hw9⟩:∃W,W=(w8.alloc (.cells [.slice none 0 0,.slice none 0 0].toArray 128)).setCells w8.heap.size 0 [vo,vf]:=⟨_,rfl⟩;have hbo:=VD w8 [.slice none 0 0,.slice none 0 0] [vo,vf] 128 rfl;rw[<-hw9]at hbo;obtain⟨B9,r9,s9,t9⟩:=hbo;refine wpList_store_mid rfl 128 _ _ rfl w8.heap.size 0 #[vo,vf] rfl rfl t9 Xw Hone.out ?_;rw[List.toList_toArray];have hw9':w9=(w8.alloc (.cells #[.slice none 0 0,.slice none 0 0] 128)).setCells w8.heap.size 0 [vo,vf]:=hw9;rw[<-hw9'];obtain⟨Bw7,T7,z7⟩:=HW7.out;have z8:=B8.size;have Bw9:Below w.heap.size w w9:=(Bw7.trans (B8.mono (by omega))).trans (B9.mono (by omega));have T9:=(T7.block (B8.block _ (by omega))).block (B9.block _ (by omega));have cf:w9.cell? ⟨w8.heap.size,1,none⟩=some (.slice fa C fc):=by rw[<-Hevf.out];simpa using r9 1 _ rfl
  have HMo1:Hid (Calls Try.prog 61 #[.pointer (some ⟨w6.heap.size,0,none⟩),.pointer (some ⟨w4.heap.size,0,none⟩),.agg #[vo,vf]] w9 (QR A (alB A) kf w9)):=HMo.out vo vf _ _ w9 (B8.trans (B9.mono z8)) (Oo.below B9) (Of.below B9);have hC2:(C:Int)<=200:=by have h1:=cnt_le (alB A) A.N;have h2:=HAN.out;have h3:=HC.out;omega
  have HW9:Hid (Below w.heap.size w w9/\TC w.heap.size Sk w9/\w.heap.size+1<=w9.heap.size):=⟨Bw9,T9,by omega⟩;clear hw9 hw9' Oo Of hne B8 B9 s9 t9 Hevf Hone Bw7 T7 z7 z8 Bw9 T9 HW7 HMo HAl;by_cases hgt:96<C
  ·have hgt':(C:Int) > 96:=by omega
   obtain⟨Bw9,T9,z9⟩:=HW9.out;obtain⟨tz,BX,hfin,_⟩:=Te (.int .i64 0) (.slice none 0 0) (.slice none 0 0) (.slice none 0 0) T9 Bw9;obtain⟨WX,hWX⟩:∃W,W=w9.setCells w.heap.size 0 [.int .i64 0,.slice none 0 0,.slice none 0 0,.slice none 0 0]:=⟨_,rfl⟩;rw[<-hWX]at BX hfin;have HWX:Hid (WX=w9.setCells w.heap.size 0 [.int .i64 0,.slice none 0 0,.slice none 0 0,.slice none 0 0]):=hWX;have Hfin:Hid ((loadVar 24 ⟨w.heap.size,0,none⟩).run Try.prog WX=.ok (.agg #[.int .i64 0,.slice none 0 0,.slice none 0 0,.slice none 0 0]) WX):=hfin;clear hWX hfin T9 Bw9 z9 r9;go_wp2_with (first|(with_reducible refine gst 24 ?_;refine Vl.out ?_));refine⟨?_⟩;refine wpList_store_mid rfl 24 _ _ rfl w.heap.size 0 #[.int .i64 0,.slice none 0 0,.slice none 0 0,.slice none 0 0] rfl rfl tz Xv (by simp[Value.oneCell']) ?_;rw[List.toList_toArray,<-HWX.out];go_wp2_with fail;refine bodyPost_ret (v:=.tuple #[.agg #[.int .i64 0,.slice none 0 0,.slice none 0 0,.slice none 0 0],.int .i64 9]) (Wo Try.results35 rfl Hfin.out rfl) rfl ?_;exact⟨BX,Or.inr ⟨l,t,A,HAx.out.1,HAx.out.2,Or.inl ⟨by rw[<-HC.out];exact hgt,rfl⟩⟩⟩
  ·have hgt':¬(C:Int) > 96:=by omega
   go_wp2_with (first|(with_reducible refine gld 128 ?_;refine Vl.out ?_));refine⟨?_⟩;refine wpList_load_mid rfl 128 _ rfl w8.heap.size 0 rfl [vo,vf] _ r9 Try.underlying128 rfl Xw ?_
   (try simp only[psm])
   clear r9 cf;go_wp2_with fail;refine HMo1.out.mono ?_;rintro en w10 ⟨vc,vl,vn,rfl,o1,o2,o3,n1,n2,n3,B10⟩;obtain⟨_,_,e1,_⟩:=o1.il;obtain⟨_,_,e2,_⟩:=o2.il;obtain⟨_,_,e3,_⟩:=o3.il;have Hal:Hid ((#[.int .i64 0,vc,vl,vn]:Array Value).all (·.oneCell')=true):=by
    show([.int .i64 0,vc,vl,vn]:List Value).toArray.all (·.oneCell')=true;rw[List.all_toArray,e1,e2,e3];rfl
   have Hal2:Hid ((#[.int .i64 n,vc,vl,vn]:Array Value).all (·.oneCell')=true):=by
    show([.int .i64 n,vc,vl,vn]:List Value).toArray.all (·.oneCell')=true;rw[List.all_toArray,e1,e2,e3];rfl
   clear e1 e2 e3;go_wp2_with (first|(with_reducible refine gst 24 ?_;refine Vl.out ?_));refine⟨?_⟩;obtain⟨w11,hw11⟩:∃W,W=(w10.alloc (.cells Sk.toArray 24)).setCells w10.heap.size 0 [.int .i64 0,vc,vl,vn]:=⟨_,rfl⟩;have hbo:=VD w10 Sk [.int .i64 0,vc,vl,vn] 24 rfl;have TM:TC w10.heap.size [.int .i64 0,vc,vl,vn] w11:=by rw[hw11];exact I5 hbo.2.2.2
   rw[<-hw11]at hbo;obtain⟨B11,_,s11,t11⟩:=hbo;refine wpList_store_mid rfl 24 _ _ rfl w10.heap.size 0 #[.int .i64 0,vc,vl,vn] rfl rfl t11 Xv Hal.out ?_;rw[List.toList_toArray];have hw11':w11=(w10.alloc (.cells #[.int .i64 0,.slice none 0 0,.slice none 0 0,.slice none 0 0] 24)).setCells w10.heap.size 0 [.int .i64 0,vc,vl,vn]:=hw11;rw[<-hw11'];obtain⟨Bw9,T9,z9⟩:=HW9.out;have z10:=B10.size;obtain⟨w12,hw12⟩:∃W,W=w11.setCell ⟨w10.heap.size,0,none⟩ (.int .i64 n):=⟨_,rfl⟩;have TN:TC w10.heap.size [.int .i64 n,vc,vl,vn] w12:=by rw[hw12];exact TM.set 0 (by simp) _
   have B12:Below w10.heap.size w10 w12:=by rw[hw12];exact B11.setCell (p:=⟨w10.heap.size,0,none⟩) (Nat.le_refl _) _
   have Bw12:Below w.heap.size w w12:=(Bw9.trans (B10.mono (by omega))).trans (B12.mono (by omega));have T12:=(T9.block (B10.block _ (by omega))).block (B12.block _ (by omega));obtain⟨tz,BX,hfin,hG⟩:=Te (.int .i64 n) vc vl vn T12 Bw12;have rM:=TN.range;have cm:=(TM 0 _ rfl).1;have fm:=(TM 0 _ rfl).2;have b1:=o1.blk;have b2:=o2.blk;have b3:=o3.blk;have O1:=(o1.below B12).grown hG (fun q hq e=>by have:=Option.some.inj e;have:=(b1 q hq).1;omega);have O2:=(o2.below B12).grown hG (fun q hq e=>by have:=Option.some.inj e;have:=(b2 q hq).1;omega);have O3:=(o3.below B12).grown hG (fun q hq e=>by have:=Option.some.inj e;have:=(b3 q hq).1;omega);obtain⟨WX,hWX⟩:∃W,W=w12.setCells w.heap.size 0 [.int .i64 n,vc,vl,vn]:=⟨_,rfl⟩;rw[<-hWX]at BX hfin O1 O2 O3;have HWX:Hid (WX=w12.setCells w.heap.size 0 [.int .i64 n,vc,vl,vn]):=hWX;have HW12:Hid (w12=w11.setCell ⟨w10.heap.size,0,none⟩ (.int .i64 n)):=hw12;have Hfin:Hid ((loadVar 24 ⟨w.heap.size,0,none⟩).run Try.prog WX=.ok (.agg #[.int .i64 n,vc,vl,vn]) WX):=hfin;have HP:Hid (Jg es n w (.returned (.tuple #[.agg #[.int .i64 n,vc,vl,vn],.int .i64 0])) WX):=
    ⟨BX,Or.inr ⟨l,t,A,HAx.out.1,HAx.out.2,Or.inr ⟨by rw[<-HC.out];exact hgt,vc,vl,vn,kf,rfl,Hkf.out,O1.mono (by omega),O2.mono (by omega),O3.mono (by omega),n1,n2,n3⟩⟩⟩
   clear hw11 hw11' hw12 hWX hfin hG O1 O2 O3 b1 b2 b3 o1 o2 o3 n1 n2 n3 B10 B11 B12 Bw9 T9 Bw12 T12 BX TM TN z9 z10 s11 t11;go_wp2_with (first|(with_reducible refine gld 24 ?_;refine Vl.out ?_));refine⟨?_⟩;rw[<-HW12.out];refine wpList_load_mid rfl 24 _ rfl w10.heap.size 0 rfl [.int .i64 n,vc,vl,vn] _ rM Try.underlying24 rfl Xv ?_
   (try simp only[psm])
   refine wpList_store_mid rfl 24 _ _ rfl w.heap.size 0 #[.int .i64 n,vc,vl,vn] rfl rfl tz Xv Hal2.out ?_;rw[List.toList_toArray,<-HWX.out];go_wp2_with fail;exact bodyPost_ret (v:=.tuple #[.agg #[.int .i64 n,vc,vl,vn],.int .i64 0]) (Wo Try.results35 rfl Hfin.out rfl) rfl HP.out
 ·go_wp2_with (first|(with_reducible refine gst 124 ?_;refine Vl.out ?_));refine⟨?_⟩;obtain⟨w7,hw7⟩:∃W,W=(w6.alloc (.cells Qx.toArray 124)).setCells w6.heap.size 0 Qx:=⟨_,rfl⟩;have hbo:=VD w6 Qx Qx 124 rfl;rw[<-hw7]at hbo;obtain⟨B7,r7,s7,t7⟩:=hbo;refine wpList_store_mid rfl 124 _ _ rfl w6.heap.size 0 Qx.toArray rfl rfl t7 Xk (by simp[Qx,Value.oneCell']) ?_;rw[List.toList_toArray];have hw7':w7=(w6.alloc (.cells #[.int .i64 0,.slice none 0 0,.slice none 0 0] 124)).setCells w6.heap.size 0 Qx:=hw7;rw[<-hw7'];have T7:=T6.block (B7.block _ (by have:=B6.size;omega));have Bw7:Below w.heap.size w w7:=Bw6.trans (B7.mono Bw6.size);obtain⟨tz,BX,hfin,_⟩:=Te (.int .i64 0) (.slice none 0 0) (.slice none 0 0) (.slice none 0 0) T7 Bw7;obtain⟨WX,hWX⟩:∃W,W=w7.setCells w.heap.size 0 [.int .i64 0,.slice none 0 0,.slice none 0 0,.slice none 0 0]:=⟨_,rfl⟩;rw[<-hWX]at BX hfin;have HWX:Hid (WX=w7.setCells w.heap.size 0 [.int .i64 0,.slice none 0 0,.slice none 0 0,.slice none 0 0]):=hWX;have Hfin:Hid ((loadVar 24 ⟨w.heap.size,0,none⟩).run Try.prog WX=.ok (.agg #[.int .i64 0,.slice none 0 0,.slice none 0 0,.slice none 0 0]) WX):=hfin;clear hw7 hw7' hWX hfin T7 Bw7 T6 Bw6 T5 Bw5 rk B7 r7 t7;go_wp2_with (first|(with_reducible refine gst 24 ?_;refine Vl.out ?_));refine⟨?_⟩;refine wpList_store_mid rfl 24 _ _ rfl w.heap.size 0 #[.int .i64 0,.slice none 0 0,.slice none 0 0,.slice none 0 0] rfl rfl tz Xv (by simp[Value.oneCell']) ?_;rw[List.toList_toArray,<-HWX.out];go_wp2_with fail;refine bodyPost_ret (v:=.tuple #[.agg #[.int .i64 0,.slice none 0 0,.slice none 0 0,.slice none 0 0],.int .i64 8]) (Wo Try.results35 rfl Hfin.out rfl) rfl ?_;exact⟨BX,Or.inl ⟨rfl,hbad⟩⟩
end Go.Proofs.Ytoaaklhpmhjhkab
namespace Go.Proofs.Ytoaaklhpmhjhkab
open Go.RowKit
open Bm
variable {l : List (Nat → Bool)}{fs ls : List Nat}{S b i k m n s : Nat}{F f : Nat → Bool}{E : Nat → Nat → Bool}{rw : Nat → Nat → Int}
theorem UJ {g:Nat->Bool}:∀u r,(∀x,r<=x->x<r+u->f x=g x)->Vb f u r=Vb g u r
 |0,r,_=>rfl
 |u+1,r,h=>by
  rw[Vb,Vb,h r (by omega) (by omega),UJ u (r+1) (fun x h1 h2=>h x (by omega) (by omega))]
theorem KP:∀u r,Vb (fun _=>false) u r=-1
 |0,r=>rfl
 |u+1,r=>by rw[Vb,KP u (r+1)];simp
theorem SP {α:Type}{f g:α->Bool}:∀l:List α,(∀x∈l,f x=g x)->l.any f=l.any g
 |[],_=>rfl
 |a::l,h=>by rw[List.any_cons,List.any_cons,h a (by simp),SP l (fun x hx=>h x (by simp[hx]))]
variable {bh hs : Nat → Nat → Bool}
theorem KX {g:Nat->Bool}{P:Nat} (b:Nat) (h:∀p,p<P->f p=g p):YC hs bh f b P=YC hs bh g b P:=by
 funext q
 exact SP _ (fun p hp=>by rw[h p (List.mem_range.1 hp)])
theorem Jn {P c:Nat} (f:Nat->Bool) (h:∀p,p<P->hs p b=hs p c):YC hs bh f b P=YC hs bh f c P:=by
 funext q
 exact SP _ (fun p hp=>by rw[h p (List.mem_range.1 hp)])
theorem RB {P:Nat} (hP:P<=m):∀(w:List Nat) (f g:Nat->Bool),(∀q,q<m->f q=g q)->∀q,q<m->Vg hs bh P f w q=Vg hs bh P g w q
 |[],f,g,h,q,hq=>h q hq
 |b::w,f,g,h,q,hq=>by rw[Vg,Vg,KX b (fun p hp=>h p (by omega))]
theorem Mw {P:Nat}:∀(w:List Nat) (q:Nat),Vg hs bh P (fun _=>false) w q=false
 |[],q=>rfl
 |b::w,q=>by
  rw[Vg,show YC hs bh (fun _=>false) b P=fun _=>false from by funext q;simp[YC]];exact Mw w q
theorem Rz {P:Nat} (j:Nat->Nat):∀(u:List Nat) (f:Nat->Bool),(∀b∈u,∀p,p<P->hs p (j b)=hs p b)->Vg hs bh P f (u.map j)=Vg hs bh P f u
 |[],f,_=>rfl
 |b::u,f,h=>by
  rw[List.map_cons,Vg,Vg,Jn f (h b (by simp)),Rz j u _ (fun c hc=>h c (by simp[hc]))]
theorem Mi {t:List Int}{P:Nat} (hP:P<=96) (h:Vz (fun f b=>YC hs bh f b P) F ls l.length 0 l t):
  ∀(ks:List Nat) (s:Nat) (f:Nat->Bool),l[s]?=some f->(∀k∈ks,k<ls.length)->ext (Yb l t ls.length) s ks=Vb (fun r=>Vg hs bh P f (ks.map fun k=>ls.getD k 0) (96+r)) 8 0
 |[],s,f,hf,_=>by
  rw[ext_nil];show Vb (fun r=>(l.getD s Sl) (96+r)) 8 0=_;rw[List.getD_eq_getElem?_getD,hf];rfl
 |k::ks,s,f,hf,hk=>by
  obtain⟨e1,e2,e3,e4,e5⟩:=h.size;have htl:t.length=l.length*ls.length:=by omega
  have hkl:=hk k (by simp);have hsl:=(List.getElem?_eq_some_iff.1 hf).1;have hi:s*ls.length+k<t.length:=by
   have:(s+1)*ls.length<=l.length*ls.length:=Nat.mul_le_mul_right _ hsl;rw[Nat.add_mul]at this;omega
  obtain⟨f',b,x,a1,a2,a3,a4⟩:=h.fnd.to s k hkl hi;rw[hf]at a1;cases a1;rw[ext_cons,show(Yb l t ls.length).to s k=x from by simp[Yb,List.getD_eq_getElem?_getD,a3],List.map_cons,show ls.getD k 0=b from by rw[List.getD_eq_getElem?_getD,a2];rfl];rcases a4 with ⟨a4,a5⟩|⟨j,g,c1,c2,c3⟩
  ·rw[a5,ext_none _ _ (by omega),<-KP 8 0];refine UJ 8 0 (fun r _ hr=>?_);have h1:=RB (hs:=hs) (bh:=bh) (P:=P) (m:=104) (by omega) (ks.map fun k=>ls.getD k 0) (YC hs bh f b P) (fun _=>false) (fun q hq=>(XS _ _ _).1 a4 q hq) (96+r) (by omega);rw[Vg,h1,Mw]
  ·rw[c1,Mi hP h ks j g c2 (fun q hq=>hk q (by simp[hq]))];refine UJ 8 0 (fun r _ hr=>?_);exact RB (hs:=hs) (bh:=bh) (P:=P) (m:=104) (by omega) _ _ _ (fun q hq=>(XS _ _ _).1 c3 q hq) (96+r) (by omega)
theorem M1 (hs:Nat->Nat->Bool) (P:Nat) {b:Nat} (hb:b<256):idx (Kq hs P) b<(MZ hs P).length/\∀p,p<P->hs p ((MZ hs P).getD (idx (Kq hs P) b) 0)=hs p b:=by
 have hE:=TW hs P 256;have h1:=idx_lt hE hb;refine⟨h1,fun p hp=>?_⟩;have h2:=reps_get (Kq hs P) 256 (least (Kq hs P) b) (by have:=least_le (Kq hs P) b;omega) (least_idem hE hb);have h3:(MZ hs P).getD (idx (Kq hs P) b) 0=least (Kq hs P) b:=by
  rw[List.getD_eq_getElem?_getD];unfold MZ idx;rw[h2];rfl
 rw[h3];exact(Vi hs P _ _).1 (least_like hE hb) p hp
theorem Lo {t:List Int}{P:Nat} (hP:P<=96) (h:Vz (fun f b=>YC hs bh f b P) F (MZ hs P) l.length 0 l t) {s:Nat}{f:Nat->Bool} (hf:l[s]?=some f) (u:List Nat) (hu:∀b∈u,b<256):
  ext (Yb l t (MZ hs P).length) s (u.map (idx (Kq hs P)))=Vb (fun r=>Vg hs bh P f u (96+r)) 8 0:=by
 rw[Mi hP h _ s f hf (fun k hk=>by
  obtain⟨b,hb,rfl⟩:=List.mem_map.1 hk;exact(M1 hs P (hu b hb)).1),List.map_map]
 rw[Rz ((fun k=>(MZ hs P).getD k 0) ∘ idx (Kq hs P)) u f (fun b hb p hp=>(M1 hs P (hu b hb)).2 p hp)]
theorem JC {A:(Nat->Bool)->Nat->Nat->Bool}{t:List Int} (h:Vz A F ls s k l t):l[0]?=some F:=by
 induction h with
 |first=>rfl
 |@kind s k l t f b h hf hb hr ih=>
  obtain⟨u,hu⟩:=OD l (A f b);rw[hu,List.getElem?_append_left (by have:=(List.getElem?_eq_some_iff.1 ih).1;omega)];exact ih
 |set h hs ih=>exact ih
noncomputable def Ja (es:Nat->Rx) (n:Nat) (w:List Nat):Int:=Vb (fun r=>Vg (XN es n) (VQ es n) (YR es n) (Xx es n) w (96+r)) 8 0
variable {es : Nat → Rx}
theorem JD {t:List Int} (hP:YR es n<=96) (h:Vz (Us es n) (Xx es n) (TV es n) l.length 0 l t) (u:List Nat) (hu:∀b∈u,b<256):
  ext (Yb l t (TV es n).length) 0 (u.map (idx (Kq (XN es n) (YR es n))))=Ja es n u:=
 Lo (s:=0) hP h (JC h) u hu
end Go.Proofs.Ytoaaklhpmhjhkab
namespace Go.Proofs.Ytoaaklhpmhjhkab
open Bm
def Gl (P R:Nat) (g:Nat->Bool):Prop:=∀q,q<104->g q=true->q<P\/(96<=q/\q<96+R)
theorem LS (es:Nat->Rx) (R:Nat) (_hP:YR es R<=96):Gl (YR es R) R (Xx es R):=fun q hq h=>by
 by_cases h1:q<96
 ·obtain⟨k,hk,hf⟩:=(Wg es R q h1).1 h;have h2:=(Rx.fst_rng _ _ _ hf).2;have h3:=X0 es (show k+1<=R from hk);simp only[YR]at h3;exact Or.inl (by omega)
 ·have e:=SZ es R (q-96);rw[show 96+(q-96)=q by omega,h]at e;have:q-96<R:=by
   have:=e.symm;simp only[Bool.and_eq_true,decide_eq_true_eq]at this;exact this.1
  exact Or.inr (by omega)
theorem KL (es:Nat->Rx) (R:Nat) (_hP:YR es R<=96) (f:Nat->Bool) (b:Nat):Gl (YR es R) R (Us es R f b):=fun q hq h=>by
 unfold Us YC at h;obtain⟨p,hp,h1⟩:=List.any_eq_true.1 h;have hp':=List.mem_range.1 hp;simp only[Bool.and_eq_true]at h1;obtain⟨k,k1,k2,k3⟩:=Px es R p hp';have h2:=h1.2;rw[Vu es R k p q k1 k2 k3]at h2;simp only[Bool.or_eq_true,Bool.and_eq_true,decide_eq_true_eq]at h2;rcases h2 with h2|⟨h2,_⟩
 ·have h3:=(Rx.fol_rng _ _ _ _ h2).2.2.2;have h4:=X0 es (show k+1<=R from k1);simp only[YR]at h4;exact Or.inl (by omega)
 ·exact Or.inr (by omega)
variable {l : List (Nat → Bool)}{fs ls : List Nat}{S i k n s : Nat}{F f : Nat → Bool}{E : Nat → Nat → Bool}{rw : Nat → Nat → Int}
theorem RM:∀(u d r:Nat),(∀x,r+u<=x->x<r+u+d->f x=false)->Vb f (u+d) r=Vb f u r
 |0,0,r,_=>rfl
 |0,d+1,r,h=>by
  have:=RM 0 d (r+1) (fun x h1 h2=>h x (by omega) (by omega));rw[Nat.zero_add]at this ⊢;show(if f r then (r:Int) else Vb f d (r+1))=-1;rw[h r (by omega) (by omega),if_neg (by simp),this];rfl
 |u+1,d,r,h=>by
  rw[show u+1+d=(u+d)+1 by omega,Vb,Vb];split
  ·rfl
  ·exact RM u d (r+1) (fun x h1 h2=>h x (by omega) (by omega))
open Go.RowKit
theorem Qb (hE:Eqv E n) {f:Nat->Int} (hf:∀b,b<n->f b=idxI E b):∀k,k<=n->Yq f k=some (cnt E k)
 |0,_=>rfl
 |k+1,hk=>by
  have ih:=Qb hE hf k (by omega);obtain⟨h1,h2⟩:=rep_new hE (show k<n by omega);have h3:f k=(idx E k:Int):=hf k (by omega);rw[Yq,ih,cnt_succ];simp only;rw[if_neg (by rw[h3];omega)];by_cases h:least E k=k
  ·rw[if_pos (by rw[h3,h1.2 h]),if_pos h]
  ·rw[if_neg (fun e=>h (h1.1 (by rw[h3]at e;omega))),if_neg h];rfl
theorem Iz (es:Nat->Rx) (n:Nat) (hP:YR es n<=96) {ls:List Nat}{s k:Nat}{l:List (Nat->Bool)}{t:List Int} (h:Vz (Us es n) (Xx es n) ls s k l t):∀g∈l,Gl (YR es n) n g:=by
 induction h with
 |first=>intro g hg;rw[List.mem_singleton.1 hg];exact LS es n hP
 |@kind s k l t f b h hf hb hr ih=>
  intro g hg;unfold WK at hg;split at hg
  ·exact ih g hg
  ·split at hg
   ·exact ih g hg
   ·rcases List.mem_append.1 hg with hg|hg
    ·exact ih g hg
    ·rw[List.mem_singleton.1 hg];exact KL es n hP f b
 |set h hs ih=>exact ih
theorem JX {x:Int} (h:x∈WY rw fs S):∃s j,s<S/\j<fs.length/\x=rw s (fs.getD j 0):=by
 obtain⟨s,hs,h⟩:=List.mem_flatMap.1 h;obtain⟨j,hj,h⟩:=List.mem_map.1 h;exact⟨s,j,List.mem_range.1 hs,List.mem_range.1 hj,h.symm⟩
theorem Oa {α:Type}{l:List α}{d:α} (h:i<l.length):l.getD i d∈l:=by
 rw[List.getD_eq_getElem?_getD,List.getElem?_eq_getElem h];exact List.getElem_mem h
theorem Nh:∀(m n:Nat) (φ:Nat->Nat),(∀i,i<n->φ i<m)->(∀i j,i<j->j<n->φ i≠φ j)->n<=m
 |0,n,φ,h,_=>by
  rcases Nat.eq_zero_or_pos n with h0|h0
  ·omega
  ·have:=h 0 h0;omega
 |m+1,n,φ,h,hi=>by
  by_cases hx:∃i,i<n/\φ i=m
  ·obtain⟨i,h1,h2⟩:=hx;have:=Nh m (n-1) (fun j=>φ (if j<i then j else j+1)) (fun j hj=>by
    show φ (if j<i then j else j+1)<m;split
    ·have a:=h j (by omega);have b:=hi j i (by omega) h1;omega
    ·have a:=h (j+1) (by omega);have b:=hi i (j+1) (by omega) (by omega);omega) (fun j k hjk hk=>by
    show φ (if j<i then j else j+1)≠φ (if k<i then k else k+1);split
    ·split
     ·exact hi j k hjk (by omega)
     ·exact hi j (k+1) (by omega) (by omega)
    ·split
     ·omega
     ·exact hi (j+1) (k+1) (by omega) (by omega))
   omega
  ·have:=Nh m n φ (fun i h1=>by
    have a:=h i h1;have b:φ i≠m:=fun e=>hx ⟨i,h1,e⟩
    omega) hi
   omega
def bits (u:Nat->Bool):Nat->Nat
 |0=>0
 |p+1=>bits u p+if u p then 2 ^ p else 0
theorem RY (u:Nat->Bool):∀P,bits u P<2 ^ P
 |0=>by simp[bits]
 |P+1=>by
  have:=RY u P;rw[bits,Nat.pow_succ];split<;>omega
theorem NL {u:Nat->Bool}:∀ {P p:Nat},p<P->u p=true->0<bits u P
 |P+1,p,h,hu=>by
  rw[bits];by_cases e:p=P
  ·subst e;rw[if_pos hu];have:=Nat.pow_pos (n:=p) (show 0<2 by omega);omega
  ·have:=NL (show p<P by omega) hu;omega
theorem NK {u v:Nat->Bool}:∀ {P:Nat},bits u P=bits v P->∀p,p<P->u p=v p
 |0,_,p,hp=>by omega
 |P+1,h,p,hp=>by
  rw[bits,bits]at h;have h1:=RY u P;have h2:=RY v P;have h3:u P=v P/\bits u P=bits v P:=by
   cases hu:u P<;>cases hv:v P<;>simp[hu,hv]at h ⊢<;>omega
  by_cases e:p=P
  ·subst e;exact h3.1
  ·exact NK h3.2 p (by omega)
structure Gc (P:Nat) (bh:Nat->Nat->Bool) (F:Nat->Bool) (l:List (Nat->Bool)):Prop where
 by_:∀(j:Nat) g,l[j]?=some g->0<j->∃u:Nat->Bool,(∃p,p<P/\u p=true)/\∀q,g q=(List.range P).any fun p=>u p&&bh p q
 ne:∀(i j:Nat) a b,i<j->l[i]?=some a->l[j]?=some b->Yk a b 104=false
variable {bh hs : Nat → Nat → Bool}
theorem Mh {P:Nat}{t:List Int} (h:Vz (fun f b=>YC hs bh f b P) F ls s k l t):Gc P bh F l:=by
 induction h with
 |first=>
  refine⟨fun j g hj h0=>?_,fun i j a b hij _ hb=>?_⟩
  ·have:=(List.getElem?_eq_some_iff.1 hj).1;simp at this;omega
  ·have:=(List.getElem?_eq_some_iff.1 hb).1;simp at this;omega
 |@kind s k l t f b h hf hb hr ih=>
  unfold WK;split
  ·exact ih
  ·rename_i hne;split
   ·exact ih
   ·rename_i hnf;have hall:∀g∈l,Yk g (YC hs bh f b P) 104=false:=fun g hg=>by
     cases hx:Yk g (YC hs bh f b P) 104
     ·rfl
     ·exact absurd (List.findIdx_lt_length_of_exists ⟨g,hg,hx⟩) hnf
    refine⟨fun j g hj h0=>?_,fun i j a c hij ha hc=>?_⟩
    ·by_cases hl:j<l.length
     ·rw[List.getElem?_append_left hl]at hj;exact ih.by_ j g hj h0
     ·rw[List.getElem?_append_right (by omega)]at hj;have hg:g=YC hs bh f b P:=by
       have h1:=(List.getElem?_eq_some_iff.1 hj).1;have h2:j-l.length=0:=by simp at h1;omega
       rw[h2]at hj;simpa using hj.symm
      subst hg;refine⟨fun p=>f p&&hs p b,?_,fun q=>rfl⟩;have h3:¬ ∀q,q<104->YC hs bh f b P q=false:=fun h4=>hne ((XS _ _ _).2 (fun q hq=>h4 q hq))
      have h5:∃q,YC hs bh f b P q=true:=by
       refine Classical.byContradiction (fun h6=>h3 (fun q _=>?_));cases h7:YC hs bh f b P q
       ·rfl
       ·exact absurd ⟨q,h7⟩ h6
      obtain⟨q,h6⟩:=h5;unfold YC at h6;obtain⟨p,hp,h7⟩:=List.any_eq_true.1 h6;refine⟨p,List.mem_range.1 hp,?_⟩;simp only[Bool.and_eq_true]at h7 ⊢;exact h7.1
    ·by_cases hl:j<l.length
     ·rw[List.getElem?_append_left hl]at hc;rw[List.getElem?_append_left (by omega)]at ha;exact ih.ne i j a c hij ha hc
     ·rw[List.getElem?_append_right (by omega)]at hc;have h1:=(List.getElem?_eq_some_iff.1 hc).1;have h2:j-l.length=0:=by simp at h1;omega
      rw[h2]at hc;have hg:c=YC hs bh f b P:=by simpa using hc.symm
      subst hg;rw[List.getElem?_append_left (by omega)]at ha;exact hall a (List.mem_of_getElem? ha)
 |set h hs ih=>exact ih
theorem ME {P:Nat} (h:Gc P bh F l):l.length<=2 ^ P:=by
 have hx:∀j:Nat,∃m:Nat,j<l.length->(j=0->m=0)/\(0<j->0<m/\∃u:Nat->Bool,m=bits u P/\∀q,(l.getD j Sl) q=(List.range P).any fun p=>u p&&bh p q)/\m<2 ^ P:=fun j=>by
  by_cases hj:j<l.length
  ·rcases Nat.eq_zero_or_pos j with h0|h0
   ·exact⟨0,fun _=>⟨fun _=>rfl,fun h1=>by omega,Nat.pow_pos (by omega)⟩⟩
   ·obtain⟨u,⟨p,hp,hu⟩,hq⟩:=h.by_ j _ (List.getElem?_eq_getElem hj) h0;refine⟨bits u P,fun _=>⟨fun h1=>by omega,fun _=>⟨NL hp hu,u,rfl,fun q=>?_⟩,RY u P⟩⟩;rw[List.getD_eq_getElem?_getD,List.getElem?_eq_getElem hj];exact hq q
  ·exact⟨0,fun h1=>absurd h1 hj⟩
 obtain⟨φ,hφ⟩:=Classical.axiomOfChoice hx;refine Nh (2 ^ P) l.length φ (fun j hj=>(hφ j hj).2.2) (fun i j hij hj e=>?_);obtain⟨a1,a2,_⟩:=hφ i (by omega);obtain⟨b1,b2,_⟩:=hφ j hj;obtain⟨b3,v,b4,b5⟩:=b2 (by omega);rcases Nat.eq_zero_or_pos i with h0|h0
 ·have:=a1 h0;omega
 ·obtain⟨_,u,a4,a5⟩:=a2 h0;have h1:=NK (u:=u) (v:=v) (P:=P) (by omega);have hi:i<l.length:=by omega
  have h2:=h.ne i j _ _ hij (List.getElem?_eq_getElem hi) (List.getElem?_eq_getElem hj);have h3:Yk l[i] l[j] 104=true:=(XS _ _ _).2 (fun q _=>by
   have x1:=a5 q;have x2:=b5 q;rw[List.getD_eq_getElem?_getD,List.getElem?_eq_getElem hi]at x1;rw[List.getD_eq_getElem?_getD,List.getElem?_eq_getElem hj]at x2;simp only[Option.getD_some]at x1 x2;rw[x1,x2,Bool.eq_iff_iff,List.any_eq_true,List.any_eq_true];constructor
   ·rintro ⟨p,hp,hq⟩;exact⟨p,hp,by rw[<-h1 p (List.mem_range.1 hp)];exact hq⟩
   ·rintro ⟨p,hp,hq⟩;exact⟨p,hp,by rw[h1 p (List.mem_range.1 hp)];exact hq⟩)
  rw[h2]at h3;cases h3
variable {es : Nat → Rx}
theorem I3 (hP:YR es n<=6):(¬ ∃s k l t f b,Vz (Us es n) (Xx es n) (TV es n) s k l t/\l[s]?=some f/\(TV es n)[k]?=some b/\200<=Wx l (Us es n f b)) /\
  ∀l t,Vz (Us es n) (Xx es n) (TV es n) l.length 0 l t->¬96<cnt (alB (Yb l t (TV es n).length)) (Yb l t (TV es n).length).N:=by
 have h64:2 ^ YR es n<=2 ^ 6:=Nat.pow_le_pow_right (by omega) hP;constructor
 ·rintro ⟨s,k,l,t,f,b,h1,_,_,h4⟩;have hl:=ME (Mh h1);unfold Wx at h4;split at h4
  ·omega
  ·have:=List.findIdx_le_length (xs:=l) (p:=fun g=>Yk g (Us es n f b) 104);omega
 ·intro l t h1 h2;have hl:=ME (Mh h1);have h3:(Yb l t (TV es n).length).N=l.length:=rfl;have h4:=cnt_le (alB (Yb l t (TV es n).length)) (Yb l t (TV es n).length).N;omega
end Go.Proofs.Ytoaaklhpmhjhkab
