import Derived.Test.YtoaaklhpmhjhkaaGreatC43
set_option maxRecDepth 100000
set_option maxHeartbeats 4000000
set_option linter.all false
namespace Go.Proofs.YtoaaklhpmhjhkaaGreat
open Go.RowKit
open Bm
variable {O : List Nat}{B B0 N cap g len n rules : Nat}{vd : Nat → Int}{xb : Nat → Nat}{t : Nat → Nat → Bool}{rows : Nat → Nat → Int}{ta : Option Addr}{vo : Value}{W w w' w5 : World}
theorem TB.below (h:TB ta N t w) (hW:Below w.heap.size w w'):TB ta N t w':=fun i hi=>by
 obtain⟨tb,off,ra,rc,e,c,br⟩:=h i hi;exact⟨tb,off,ra,rc,e,by rw[hW.cell (p:=⟨tb,off+i,none⟩) (World.block_lt_of_cell? w _ c)];exact c,br.below hW⟩
def MaI (rules:Nat) (O:List Nat) (rows:Nat->Nat->Int) (vd:Nat->Int) (B:Nat) (e:Ending) (w':World):Prop:=
 ∃ca cc la lc na nc,e=.returned (.agg #[.int .i64 rules,.slice ca 256 cc,.slice la O.length lc,.slice na (O.length*cnt (Cl rows O.length) 256) nc])/\((∀k o,ca=some ⟨k,o,none⟩->B<=k)/\(∀k o,la=some ⟨k,o,none⟩->B<=k)/\(∀k o,na=some ⟨k,o,none⟩->B<=k)) /\
  IL ca (fun b=>idxI (Cl rows O.length) b) 256 w'/\IL la (fun i=>vd (O.getD i 0)) O.length w'/\IL na (fun j=>(nxtL rows (reps (Cl rows O.length) 256) O.length).getD j 0) (O.length*cnt (Cl rows O.length) 256) w'
def MaR (rules:Nat) (O:List Nat) (rows:Nat->Nat->Int) (vd:Nat->Int) (w:World) (e:Ending) (w':World):Prop:=Below w.heap.size w w'/\MaI rules O rows vd w.heap.size e w'
theorem MaI.heap {e:Ending} (h:MaI rules O rows vd B e w) (hk:∀k,B<=k->k<w.heap.size->w'.heap[k]?=w.heap[k]?):MaI rules O rows vd B e w':=by
 obtain⟨ca,cc,la,lc,na,nc,h1,⟨h2,h3,h4⟩,h5,h6,h7⟩:=h;exact⟨ca,cc,la,lc,na,nc,h1,⟨h2,h3,h4⟩,h5.heap (fun k hl ⟨o,eo⟩=>hk k (h2 k o eo) hl),h6.heap (fun k hl ⟨o,eo⟩=>hk k (h3 k o eo) hl),h7.heap (fun k hl ⟨o,eo⟩=>hk k (h4 k o eo) hl)⟩
def RwB (ra:Option Addr) (n:Nat) (rows:Nat->Nat->Int) (w:World):Prop:=∀i,i<n->∃b o xa xc,ra=some ⟨b,o,none⟩/\w.cell? ⟨b,o+i,none⟩=some (.slice xa 256 xc)/\IL xa (rows i) 256 w
noncomputable def rwB (A:Aut) (nx:Nat->Nat->Int) (O:List Nat) (i b:Nat):Int:=numF O (frsF A (toR A.N nx (O.getD i 0) b))
theorem y1y {x:Nat} (hx:x ∉ O) (y:Nat):numF (O++[x]) y=if y=x then (O.length:Int) else numF O y:=by
 unfold numF;by_cases e:y=x
 ·subst e;rw[if_pos (by simp),if_pos rfl,List.idxOf_append,if_neg hx];simp
 ·rw[if_neg e];by_cases h:y∈O
  ·rw[if_pos (by simp[h]),if_pos h,List.idxOf_append,if_pos h]
  ·rw[if_neg (by simp[h,e]),if_neg h]
theorem y2J (O:List Nat) (y:Nat):-1<=numF O y/\(y∈O->0<=numF O y)/\(y ∉ O->numF O y=-1):=by
 unfold numF;by_cases h:y∈O
 ·rw[if_pos h];exact⟨by omega,fun _=>by omega,fun h'=>absurd h h'⟩
 ·rw[if_neg h];exact⟨by omega,fun h'=>absurd h' h,fun _=>rfl⟩
theorem y1C (w:World) (base:Nat) (t:Int) (hb:base<=w.heap.size):OwnL base (.slice (some ⟨w.heap.size,0,none⟩) 1 1) [t] (w.alloc (.cells #[.int .i64 t] 3)):=
 World.ownsRow_lit (base:=base) (e:=3) (size:=1) w #[.int .i64 t] 1 hb (by unfold maxLen;omega) rfl
structure BO (fb N B0:Nat) (A:Aut) (vo:Value) (O:List Nat) (W w:World):Prop where
 f:TC fb (inl (fun j=>(frsF A j:Int)) (N+1)) w
 n:TC (fb+1) (inl (numF O) (N+1)) w
 o:OwnL B0 vo (O.map fun x:Nat=>(x:Int)) w
 b:Below W.heap.size W w
 z:fb+2<=B0/\B0<=w.heap.size/\W.heap.size<=fb
variable {A : Aut}
theorem BO.below {fb:Nat} (h:BO fb N B0 A vo O W w) (hW:Below w.heap.size w w'):BO fb N B0 A vo O W w':=by
 have hz:=h.z;have:=hW.size;exact⟨h.f.block (hW.block _ (by omega)),h.n.block (hW.block _ (by omega)),h.o.below hW,h.b.trans (hW.mono h.b.size),⟨hz.1,by omega,hz.2.2⟩⟩
theorem BO.app {fb:Nat}{x:Nat} (h:BO fb N B0 A vo O W w) (hx:x ∉ O) (hxN:x<N+1) {ob:Obj} (hg:((w.setCell ⟨fb+1,x,none⟩ (.int .i64 (O.length:Int))).alloc ob).grownBy w5 vo.ownBlock) (ho:OwnL B0 (.slice (some ⟨g,0,none⟩) len cap) ((O.map fun x:Nat=>(x:Int))++[(x:Int)]) w5):BO fb N B0 A (.slice (some ⟨g,0,none⟩) len cap) (O++[x]) W w5:=by
 have hz:=h.z;obtain⟨w1,hw1⟩:=nam (w.setCell ⟨fb+1,x,none⟩ (.int .i64 (O.length:Int)));rw[<-hw1]at hg;have s1:w1.heap.size=w.heap.size:=by rw[hw1,World.size_setCell]
 have hb1:∀q,q≠fb+1->w1.heap[q]?=w.heap[q]?:=fun q hq=>by rw[hw1];exact Below.heap_setCell w ⟨fb+1,x,none⟩ _ q (fun e=>hq e)
 have n1:=h.n.set x (by rw[q1d];exact hxN) (.int .i64 (O.length:Int));rw[<-hw1,q1B]at n1;have hal:=box_bel w1 ob;have hs:=hg.size;have hsa:=hal.size;have hk:∀q,q<B0->w5.heap[q]?=w1.heap[q]?:=fun q hq=>by
  rw[hg.block q (by omega) (fun e=>by have:=(h.o.blk q e.symm).1;omega),hal.block q (by omega)]
 have B1:Below W.heap.size W w1:=by rw[hw1];exact h.b.setCell (p:=⟨fb+1,x,none⟩) (by show _<=fb+1;omega) _
 have B2:=B1.trans (hal.mono B1.size);refine⟨(h.f.block (hb1 fb (by omega))).block (hk fb (by omega)),?_,by rw[List.map_append];exact ho,B2.grown hg B2.size (fun q hq=>by have:=(h.o.blk q hq).1;omega),⟨hz.1,by omega,hz.2.2⟩⟩;rw[q0C (fun j _=>y1y hx j)];exact n1.block (hk (fb+1) (by omega))
theorem q7J (w:World) (n:Nat) (hn:n<=1000000):(Instr.makeSlice 53 (.int .i64 (n:Int)) (.int .i64 (n:Int))).run Tryz.prog w=.ok (.slice (some ⟨w.heap.size,0,none⟩) n n) (w.alloc (.cells (nilL n).toArray 23)):=by
 obtain⟨i,hi,hz,hs,hb⟩:=q4K;have h:=run_make (P:=Tryz.prog) w 53 23 i (.slice none 0 0) Tryz.underlying53 hi hz .i64 .i64 n n (by omega) (by omega) (by rw[hb];omega) (by omega);rw[hs]at h;simp only[Int.toNat_natCast,Nat.mul_one]at h;rw[show(Value.slice none 0 0).cells=#[.slice none 0 0] from rfl,q3n]at h;exact h
def rwC (xb:Nat->Nat) (i n:Nat):List Value:=(List.range n).map fun j=>if j<i then .slice (some ⟨xb j,0,none⟩) 256 256 else .slice none 0 0
theorem q5S (xb:Nat->Nat) (i n:Nat):(rwC xb i n).length=n:=by simp[rwC]
theorem q6T (xb:Nat->Nat) (i:Nat) {n j:Nat} (h:j<n):(rwC xb i n)[j]?=some (if j<i then .slice (some ⟨xb j,0,none⟩) 256 256 else .slice none 0 0):=by simp[rwC,h]
theorem y2x (xb:Nat->Nat) {i n:Nat} (h:i<n) (x:Nat):(rwC xb i n).set i (.slice (some ⟨x,0,none⟩) 256 256)=rwC (upV xb i x) (i+1) n:=by
 refine List.ext_getElem? (fun j=>?_);by_cases hj:j<n
 ·rw[q6T _ _ hj];by_cases e:j=i
  ·subst e;rw[List.getElem?_set_self (by rw[q5S];exact hj),if_pos (by omega),q0i]
  ·rw[List.getElem?_set_ne (fun q=>e q.symm),q6T _ _ hj,q0f _ _ e];by_cases e2:j<i
   ·rw[if_pos e2,if_pos (by omega)]
   ·rw[if_neg e2,if_neg (by omega)]
 ·rw[List.getElem?_eq_none (by simp[q5S];omega),List.getElem?_eq_none (by rw[q5S];omega)]
structure RT (Wc:World) (xb:Nat->Nat) (i n:Nat) (rows:Nat->Nat->Int) (w:World):Prop where
 c:TC Wc.heap.size (rwC xb i n) w
 r:∀j,j<i->TC (xb j) (inl (rows j) 256) w/\Wc.heap.size<xb j/\xb j<w.heap.size
 b:Below Wc.heap.size Wc w
 z:Wc.heap.size<w.heap.size
theorem RT.rwb {Wc:World} (h:RT Wc xb n n rows w):RwB (some ⟨Wc.heap.size,0,none⟩) n rows w:=fun i hi=>by
 refine⟨Wc.heap.size,0,_,256,rfl,?_,y2w (h.r i hi).1⟩;rw[Nat.zero_add];have:=(h.c i _ (q6T xb n hi)).1;rw[if_pos hi]at this;exact this
def RBPost (es:Nat->Rx) (n:Nat) (w:World) (en:Ending) (w':World):Prop:=
 Below w.heap.size w w' /\
 ((en=.returned (.tuple #[.agg macZ.toArray,.int .i64 8])/\Ov (aftN es n) (netF es n) (kdN es n)) \/
  ∃l t A nx O,A=autOf l t (kdN es n).length/\Exp (aftN es n) (netF es n) (kdN es n) l.length 0 l t/\nx=(fun i b=>t.getD (i*(kdN es n).length+idx (Kq (netH es n) (netN es n)) b) (-1))/\O=reps (alB A) A.N /\
  ((96<O.length/\en=.returned (.tuple #[.agg macZ.toArray,.int .i64 9])) \/
   (¬96<O.length/\∃m B,en=.returned (.tuple #[m,.int .i64 0])/\MaI n O (rwB A nx O) A.vd B (.returned m) w')))
theorem y0h (b off cap n:Nat) (es:Nat->Rx) (w:World) (h8:n<=8) (hP96:netN es n<=96)
  (hCk:∀W,Below w.heap.size w W->Calls Tryz.prog 26 #[.slice (some ⟨b,off,none⟩) n cap] W fun e' w'=>(∃r a,e'=.returned (.tuple #[.int .i64 0,.int .i64 r,.int .i64 a]))/\Below W.heap.size W w')
  (hGr:∀W,Below w.heap.size w W->Calls Tryz.prog 27 #[.slice (some ⟨b,off,none⟩) n cap] W (GmPost es n W))
  (hPn:∀l t,Exp (aftN es n) (netF es n) (kdN es n) l.length 0 l t->Pn (autOf l t (kdN es n).length) (Kq (netH es n) (netN es n)) (fun i b=>t.getD (i*(kdN es n).length+idx (Kq (netH es n) (netN es n)) b) (-1)))
  (hMa:∀(W:World) (pb:Nat) (vd:Nat->Int) (nx:Nat->Nat->Int) (bs:List Nat) (N:Nat) (oa:Option Addr) (oc:Nat) (O:List Nat) (ra:Option Addr) (rc:Nat) (rows:Nat->Nat->Int),PLN pb N vd nx bs W->IL oa (fun i=>((O.getD i 0:Nat):Int)) O.length W->RwB ra O.length rows W->O.length<=96->N<=200->(∀x∈O,x<N) ->
   Calls Tryz.prog 31 #[.pointer (some ⟨pb,0,none⟩),.int .i64 n,.slice oa O.length oc,.slice ra O.length rc] W (MaR n O rows vd W)):
  Calls Tryz.prog 10 #[.slice (some ⟨b,off,none⟩) n cap] w (RBPost es n w):=by
 have hz:=q1i;obtain⟨W0,hW0⟩:=nam (w.alloc (.cells #[.int .i64 0,.slice none 0 0,.slice none 0 0,.slice none 0 0] 25));have T0:TC w.heap.size macZ W0:=by rw[hW0];exact TC.boxed w macZ _
 have B0:Below w.heap.size w W0:=by rw[hW0];exact box_bel _ _
 have hs0:W0.heap.size=w.heap.size+1:=by rw[hW0];simp
 have HCk:=hyd (hCk W0 B0);have HW0:=hyd hW0;have HGr:=hyd hGr;have Hs0:=hyd3 hs0 T0 B0;have HPn:=hyd hPn;have HMa:Hid (∀(W:World) (pb:Nat) (vd:Nat->Int) (nx:Nat->Nat->Int) (bs:List Nat) (N:Nat) (oa:Option Addr) (oc:Nat) (O:List Nat) (ra:Option Addr) (rc:Nat) (rows:Nat->Nat->Int),PLN pb N vd nx bs W->IL oa (fun i=>((O.getD i 0:Nat):Int)) O.length W->RwB ra O.length rows W->O.length<=96->N<=200->(∀x∈O,x<N) ->
   Calls Tryz.prog 31 #[.pointer (some ⟨pb,0,none⟩),.int .i64 n,.slice oa O.length oc,.slice ra O.length rc] W (MaR n O rows vd W)):=hMa
 clear hW0 hs0 T0 B0 hCk hGr hPn hMa;go_enter Tryz.func10,Tryz.ntmps10;go_wp2_with fail;rw[<-HW0.out];refine HCk.out.mono ?_;rintro e w1 ⟨⟨r,a,rfl⟩,B1⟩;obtain⟨s0,T0,B0⟩:=Hs0.out;have BB1:Below w.heap.size w w1:=B0.trans (B1.mono (by omega));have T1:=T0.block (B1.block _ (by omega));have sz1:w.heap.size+1<=w1.heap.size:=by have:=B1.size;omega
 have HGr1:=hyd (HGr.out w1 BB1);have H1:=hyd3 T1 BB1 sz1;clear HCk HW0 s0 T0 B0 B1 BB1 T1 HGr Hs0 sz1;go_wp2_with fail;refine HGr1.out.mono ?_;rintro e w2 ⟨X,tr,ad,cp,ms,Ts,Ns,ti,nd,rfl,hGm,hNs,hGX,hGR,hNX,B2,sz2⟩;obtain⟨gb,hgb⟩:=nam w1.heap.size;rw[<-hgb]at hGX hGR hNX ⊢;have HPl:=hyd (y1r X gb n tr ad cp ms Ts Ns es ti nd hGm h8 hP96 hNs w2 hGX hGR hNX);have H2:Hid (TC w.heap.size macZ w2/\Below w.heap.size w w2/\w.heap.size+1<=w2.heap.size):=by
  obtain⟨x1,x2,x3⟩:=H1.out;exact⟨x1.block (B2.block _ (by omega)),x2.trans (B2.mono (by omega)),by omega⟩
 clear HGr1 hGm hNs hGX hGR hNX B2 sz2 hgb H1;go_wp2_with fail;refine HPl.out.mono ?_;rintro e w3 ⟨B3,hcase⟩;have H3:Hid (TC w.heap.size macZ w3/\Below w.heap.size w w3/\w.heap.size+1<=w3.heap.size):=by
  obtain⟨x1,x2,x3⟩:=H2.out;have:=B3.size;exact⟨x1.block (B3.block _ (by omega)),x2.trans (B3.mono (by omega)),by omega⟩
 clear H2 HPl;rcases hcase with ⟨rfl,hov⟩|⟨l,t,pb,rfl,hExp,hPLN⟩
 ·obtain⟨T3,BB3,sz3⟩:=H3.out;obtain⟨tz,BX,hfin,_⟩:=q1e (.int .i64 0) (.slice none 0 0) (.slice none 0 0) (.slice none 0 0) T3 BB3;obtain⟨WX,hWX⟩:∃W,W=w3.setCells w.heap.size 0 [.int .i64 0,.slice none 0 0,.slice none 0 0,.slice none 0 0]:=⟨_,rfl⟩;rw[<-hWX]at BX hfin;have HWX:Hid (WX=w3.setCells w.heap.size 0 [.int .i64 0,.slice none 0 0,.slice none 0 0,.slice none 0 0]):=hWX;have Hfin:Hid ((loadVar 25 ⟨w.heap.size,0,none⟩).run Tryz.prog WX=.ok (.agg #[.int .i64 0,.slice none 0 0,.slice none 0 0,.slice none 0 0]) WX):=hfin;have HR:Hid (RBPost es n w (.returned (.tuple #[.agg macZ.toArray,.int .i64 8])) WX):=⟨BX,Or.inl ⟨rfl,hov⟩⟩;clear hWX hfin T3 BB3 sz3 B3 hov BX;go_wp2_with (first|(with_reducible refine gst 25 ?_;refine Stop.out ?_));refine⟨?_⟩;refine wpList_store_mid rfl 25 _ _ rfl w.heap.size 0 #[.int .i64 0,.slice none 0 0,.slice none 0 0,.slice none 0 0] rfl rfl tz q0D (by simp[Value.oneCell']) ?_;rw[List.toList_toArray,<-HWX.out];go_wp2_with fail;exact bodyPost_ret (v:=.tuple #[.agg macZ.toArray,.int .i64 8]) (q0L Tryz.results10 rfl Hfin.out rfl) rfl HR.out
 ·have PN:=HPn.out l t hExp;obtain⟨E,hE⟩:=nam (Kq (netH es n) (netN es n));obtain⟨A,hA⟩:=nam (autOf l t (kdN es n).length);obtain⟨nx,hnx⟩:∃nx:Nat->Nat->Int,nx=(fun i b=>t.getD (i*(kdN es n).length+idx (Kq (netH es n) (netN es n)) b) (-1)):=⟨_,rfl⟩;rw[<-hA,<-hE]at PN;rw[hE,<-hnx,<-hE]at PN;obtain⟨N,hN⟩:=nam A.N;have hNl:N=l.length:=by rw[hN,hA];rfl
  have hN200:N<=200:=by rw[hNl];exact hExp.size.2.1
  have hN1:0<N:=by rw[hNl];exact hExp.size.1
  have hbs:kdN es n=reps E 256:=by rw[hE];rfl
  have hPL:PLN pb N A.vd nx (reps E 256) w3:=by
   rw[hNl,hA,hnx,<-hbs];exact hPLN
  have hap:=y1a pb N A.vd nx (reps E 256) w3 hN200 hPL (fun k c hk=>(reps_mem hk).1) (cnt_le E 256) (fun i c hi hc=>by rw[hN]at hi ⊢;exact PN.lt hi hc);have HAp:=hyd hap;have HX:=hyd5 hExp hA hnx hN PN;have HPL:=hyd hPL;have hc0:∃va vc,w3.cell? ⟨pb,0,none⟩=some (.slice va N vc):=by
   obtain⟨va,vc,h1,_⟩:=hPL.v;exact⟨va,vc,h1⟩
  clear hExp hPLN hA hE hnx hNl hbs hPL hap PN hN B3;go_wp2_with fail;refine HAp.out.mono ?_;rintro e w4 ⟨rk,tt,rfl,hTBO,B4,hApt,hClo⟩;obtain⟨va,vc,cv⟩:=hc0;have cv4:w4.cell? ⟨pb,0,none⟩=some (.slice va N vc):=by rw[B4.cell (p:=⟨pb,0,none⟩) (World.block_lt_of_cell? w3 _ cv)];exact cv
  have Hmk:Hid (∀w',(Instr.makeSlice 23 (.int .i64 ((N:Int)+1)) (.int .i64 ((N:Int)+1))).run Tryz.prog w'=.ok (.slice (some ⟨w'.heap.size,0,none⟩) (N+1) (N+1)) (w'.alloc (.cells (zeroI (N+1)).toArray 3))):=fun w'=>by
   have:=q1M w' (N+1) (by omega);rw[show((N:Int)+1)=((N+1:Nat):Int) by omega];exact this
  have hTB:=hTBO.tb;obtain⟨tb,htb⟩:=nam w3.heap.size;rw[<-htb]at hTB ⊢;have HTB:=hyd hTB;have HAC:=hyd2 hApt hClo;have H4:Hid (TC w.heap.size macZ w4/\Below w.heap.size w w4/\w.heap.size+1<=w4.heap.size/\PLN pb N A.vd nx (reps E 256) w4):=by
   obtain⟨x1,x2,x3⟩:=H3.out;have:=B4.size;exact⟨x1.block (B4.block _ (by omega)),x2.trans (B4.mono (by omega)),by omega,HPL.out.below B4⟩
  have hmk4:=Hmk.out w4;obtain⟨w5,hw5⟩:=nam (w4.alloc (.cells (zeroI (N+1)).toArray 3));have hmk5:=Hmk.out w5;obtain⟨w6,hw6⟩:=nam (w5.alloc (.cells (zeroI (N+1)).toArray 3));obtain⟨fb,hfb⟩:=nam w4.heap.size;have z5:w5.heap.size=fb+1:=by rw[hw5,hfb];simp
  have z6:w6.heap.size=fb+2:=by rw[hw6];simp[z5]
  have x5:Below w4.heap.size w4 w5:=by rw[hw5];exact box_bel _ _
  have x6:Below w5.heap.size w5 w6:=by rw[hw6];exact box_bel _ _
  have Tf:TC fb (inl (fun _=>0) (N+1)) w6:=by
   have h1:TC fb (inl (fun _=>0) (N+1)) w5:=by rw[hfb,hw5];exact TC.boxed w4 (zeroI (N+1)) 3
   exact h1.block (x6.block fb (by omega))
  have Tn:TC (fb+1) (inl (fun _=>0) (N+1)) w6:=by rw[<-z5,hw6];exact TC.boxed w5 (zeroI (N+1)) 3
  have H6:Hid (TC fb (inl (fun _=>0) (N+1)) w6/\TC (fb+1) (inl (fun _=>0) (N+1)) w6/\Below w4.heap.size w4 w6/\w6.heap.size=fb+2):=⟨Tf,Tn,x5.trans (x6.mono (by omega)),z6⟩;have Hfb:=hyd hfb;have Hw5:=hyd hw5;have Hw6:=hyd hw6;clear HAp hTBO hTB hApt hClo cv htb Tf Tn x5 x6 B4 H3 HPL hw5 hw6 hfb z5 z6;rw[Hw5.out]at hmk5;go_wp2_with fail;rw[<-Hw5.out,<-Hw6.out,<-Hfb.out];clear hmk4;clear hmk5 cv4
  go_loopw [14] (fun x w'=>∃i:Nat,i<=N+1/\x=.int .i64 i/\TC fb (inl (fun j=>if j<i then (frsF A j:Int) else 0) (N+1)) w'/\TC (fb+1) (inl (fun j=>if j<i then -1 else 0) (N+1)) w'/\Below w4.heap.size w4 w'/\fb+2<=w'.heap.size) (fun x _=>N+1-(intOf x).toNat)
  case atStart=>
   obtain⟨y1,y2,y3,y4⟩:=H6.out;exact⟨0,by omega,rfl,by rw[q0C (g:=fun _=>0) (fun j _=>by simp)];exact y1,by rw[q0C (g:=fun _=>0) (fun j _=>by simp)];exact y2,y3,by omega⟩
  case round=>
   clear H6;obtain⟨i,hi,rfl,Tf,Tn,Bw,sz⟩:=hrel;by_cases hle:i<=N
   ·have hle':(i:Int)<=N:=by omega
    have hle2:(i:Int)<N+1:=by omega
    obtain⟨f1,f2⟩:=Tf i _ (q1l _ (show i<N+1 by omega));have Tf2:=Tf.set i (by rw[q1d];omega) (.int .i64 (i:Int));have hb1:∀q,q≠fb->(wr.setCell ⟨fb,i,none⟩ (.int .i64 (i:Int))).heap[q]?=wr.heap[q]?:=fun q hq=>Below.heap_setCell wr ⟨fb,i,none⟩ _ q (fun e=>hq e)
    have Tn1:=Tn.block (hb1 (fb+1) (by omega));obtain⟨n1,n2⟩:=Tn1 i _ (q1l _ (show i<N+1 by omega));have Tn2:=Tn1.set i (by rw[q1d];omega) (.int .i64 (-1));obtain⟨w7,hw7⟩:=nam ((wr.setCell ⟨fb,i,none⟩ (.int .i64 (i:Int))).setCell ⟨fb+1,i,none⟩ (.int .i64 (-1)));have Tf3:TC fb ((inl (fun j=>if j<i then (frsF A j:Int) else 0) (N+1)).set i (.int .i64 (i:Int))) w7:=by
     rw[hw7];exact Tf2.block (Below.heap_setCell _ ⟨fb+1,i,none⟩ _ fb (fun e=>by have e':fb=fb+1:=e;omega))
    rw[<-hw7]at Tn2;rw[q1B]at Tf3 Tn2;have B7:Below w4.heap.size w4 w7:=by
     rw[hw7];exact(Bw.setCell (p:=⟨fb,i,none⟩) (by have:=Hfb.out;show _<=fb;omega) _).setCell (p:=⟨fb+1,i,none⟩) (by have:=Hfb.out;show _<=fb+1;omega) _
    have z7:fb+2<=w7.heap.size:=by rw[hw7,World.size_setCell,World.size_setCell];exact sz
    have H7:Hid (TC fb (inl (fun j=>if j=i then (i:Int) else if j<i then (frsF A j:Int) else 0) (N+1)) w7/\TC (fb+1) (inl (fun j=>if j<i+1 then -1 else 0) (N+1)) w7/\Below w4.heap.size w4 w7/\fb+2<=w7.heap.size):=by
     refine⟨Tf3,?_,B7,z7⟩;rw[q0C (g:=fun j=>if j=i then -1 else if j<i then -1 else 0) (fun j _=>?_)]
     ·exact Tn2
     ·by_cases e:j=i
      ·simp[e]
      ·by_cases e2:j<i
       ·simp[e,e2,show j<i+1 by omega]
       ·simp[e,e2,show ¬j<i+1 by omega]
    have Hw7:=hyd hw7;clear Tf Tn Tf2 Tf3 Tn1 Tn2 B7 z7 hw7 Bw hb1;go_wp2_with fail;rw[<-Hw7.out];clear f1 f2 n1 n2
    go_loopw [15] (fun x w'=>∃(f:Nat) (jj:Int),x=.int .i64 jj/\-1<=jj/\jj<=i/\f<=i/\Hid (tt i f=false/\∀c:Nat,jj<c->c<=i->tt i c=false->f<=c)/\TC fb (inl (fun j=>if j=i then (f:Int) else if j<i then (frsF A j:Int) else 0) (N+1)) w'/\TC (fb+1) (inl (fun j=>if j<i+1 then -1 else 0) (N+1)) w'/\Below w4.heap.size w4 w'/\fb+2<=w'.heap.size) (fun x _=>(intOf x+1).toNat)
    case atStart=>
     obtain⟨y1,y2,y3,y4⟩:=H7.out;exact⟨i,i,rfl,by omega,by omega,by omega,⟨HAC.out.1.irr i hle,fun c h1 h2=>by omega⟩,y1,y2,y3,y4⟩
    case round=>
     clear H7;obtain⟨f,jj,rfl,hj1,hj2,hfi,HF,Tf,Tn,Bw,sz⟩:=hrel;by_cases hj:0<=jj
     ·obtain⟨j,rfl⟩:∃j:Nat,jj=j:=⟨jj.toNat,by omega⟩;have hj':(0:Int)<=j:=by omega
      have hji:j<=i:=by omega
      have hjN:(j:Int)<N+1:=by omega
      obtain⟨tb2,to2,ra,rc,et,ct,br⟩:=(HTB.out.below Bw) i hle;cases et;obtain⟨b2,o2,e2,c2⟩:=br j (by omega);subst e2;simp only[Nat.zero_add]at ct;cases ht:tt i j
      ·rw[ht]at c2;obtain⟨f1,f2⟩:=Tf i _ (q1l _ (show i<N+1 by omega));have Tf2:=Tf.set i (by rw[q1d];omega) (.int .i64 (j:Int));rw[q1B]at Tf2;have Hn:Hid (tt i j=false/\∀c:Nat,((j:Int)-1)<c->c<=i->tt i c=false->j<=c):=⟨ht,fun c h1 _ _=>by omega⟩;have H8:Hid (TC fb (inl (fun q=>if q=i then (j:Int) else if q<i then (frsF A q:Int) else 0) (N+1)) (wr.setCell ⟨fb,i,none⟩ (.int .i64 (j:Int)))/\TC (fb+1) (inl (fun q=>if q<i+1 then -1 else 0) (N+1)) (wr.setCell ⟨fb,i,none⟩ (.int .i64 (j:Int)))/\Below w4.heap.size w4 (wr.setCell ⟨fb,i,none⟩ (.int .i64 (j:Int)))/\fb+2<=(wr.setCell ⟨fb,i,none⟩ (.int .i64 (j:Int))).heap.size):=by
        refine⟨?_,Tn.block (Below.heap_setCell wr ⟨fb,i,none⟩ _ (fb+1) (fun e=>by have e':fb+1=fb:=e;omega)),Bw.setCell (p:=⟨fb,i,none⟩) (by have:=Hfb.out;show _<=fb;omega) _,by rw[World.size_setCell];exact sz⟩;rw[q0C (g:=fun q=>if q=i then (j:Int) else if q=i then (f:Int) else if q<i then (frsF A q:Int) else 0) (fun q _=>by by_cases e:q=i<;>simp[e])];exact Tf2
       clear Tf Tf2 Tn ht HF br;go_wp2_with fail;go_roundw
       case rel=>exact⟨j,(j:Int)-1,by go_num,by omega,by omega,hji,Hn,H8.out⟩
       case measure=>simp[intOf]
      ·rw[ht]at c2;have Hn:Hid (tt i f=false/\∀c:Nat,((j:Int)-1)<c->c<=i->tt i c=false->f<=c):=⟨HF.out.1,fun c h1 h2 h3=>by
        by_cases e:c=j
        ·subst e;rw[ht]at h3;cases h3
        ·exact HF.out.2 c (by omega) h2 h3⟩
       clear ht HF br;go_wp2_with fail;go_roundw
       case rel=>exact⟨f,(j:Int)-1,by go_num,by omega,by omega,hfi,Hn,Tf,Tn,Bw,sz⟩
       case measure=>simp[intOf]
     ·have hj':¬(0:Int)<=jj:=by omega
      have hjm:jj=-1:=by omega
      subst hjm;have Hf:Hid ((f:Int)=(frsF A i:Nat)):=by
       show _=_;obtain⟨_,_,_,x4,x5⟩:=HX.out;have:=y3C x5 (t:=tt) (by rw[<-x4];exact HAC.out.1) (by rw[<-x4];exact HAC.out.2) (i:=i) (f:=f) (by omega) hfi HF.out.1 (fun j hj=>by
        cases hx:tt i j
        ·have:=HF.out.2 j (by omega) (by omega) hx;omega
        ·rfl)
       rw[this]
      have H8:Hid (TC fb (inl (fun j=>if j<i+1 then (frsF A j:Int) else 0) (N+1)) wr):=by
       show TC _ _ _;rw[q0C (g:=fun j=>if j=i then (f:Int) else if j<i then (frsF A j:Int) else 0) (fun j _=>?_)]
       ·exact Tf
       ·by_cases e:j=i
        ·subst e;simp[Hf.out]
        ·by_cases e2:j<i
         ·simp[e,e2,show j<i+1 by omega]
         ·simp[e,e2,show ¬j<i+1 by omega]
      clear Tf HF;go_wp2_with fail;go_roundw
      case rel=>exact⟨i+1,by omega,by go_num,H8.out,Tn,Bw,sz⟩
      case measure=>simp[intOf];omega
   ·have hle':¬(i:Int)<=N:=by omega
    have hiN:i=N+1:=by omega
    subst hiN;have h0N:(0:Int)<N+1:=by omega
    obtain⟨B0,hB0⟩:=nam wr.heap.size;have hx8:=box_bel wr (.cells #[.int .i64 0] 3);have Tn8:=Tn.block (hx8.block (fb+1) (by omega));obtain⟨n1,n2⟩:=Tn8 0 _ (q1l _ (show 0<N+1 by omega));have Tn9:=Tn8.set 0 (by rw[q1d];omega) (.int .i64 0);rw[q1B]at Tn9;obtain⟨w9,hw9⟩:=nam ((wr.alloc (.cells #[.int .i64 0] 3)).setCell ⟨fb+1,0,none⟩ (.int .i64 0));rw[<-hw9]at Tn9;have hb9:∀q,q≠fb+1->w9.heap[q]?=(wr.alloc (.cells #[.int .i64 0] 3)).heap[q]?:=fun q hq=>by rw[hw9];exact Below.heap_setCell _ ⟨fb+1,0,none⟩ _ q (fun e=>hq e)
    have HBO:Hid (BO fb N B0 A (.slice (some ⟨B0,0,none⟩) 1 1) [0] w4 w9):=by
     refine⟨?_,?_,?_,?_,⟨by omega,?_,by have:=Hfb.out;omega⟩⟩
     ·have:=(Tf.block (hx8.block fb (by omega))).block (hb9 fb (by omega));rw[q0C (g:=fun j=>if j<N+1 then (frsF A j:Int) else 0) (fun j hj=>by rw[if_pos hj])];exact this
     ·rw[q0C (g:=fun j=>if j=0 then 0 else if j<N+1 then -1 else 0) (fun j hj=>?_)]
      ·exact Tn9
      ·unfold numF;by_cases e:j=0
       ·simp[e]
       ·simp[e,hj]
     ·have:=y1C wr B0 0 (by omega);rw[<-hB0]at this;exact this.keep (fun k hk=>hb9 k (by
        have hk':B0=k:=Option.some.inj hk;omega))
     ·rw[hw9];exact(Bw.trans (hx8.mono Bw.size)).setCell (p:=⟨fb+1,0,none⟩) (by have:=Hfb.out;show _<=fb+1;omega) _
     ·rw[hw9,World.size_setCell];have:=hx8.size;omega
    have Hw9:=hyd hw9;have HO0:=hyd (Or.first HX.out.2.2.2.2);clear Tf Tn Tn8 Tn9 hw9 hb9 hx8 Bw sz;go_wp2_with fail;rw[<-hB0,<-Hw9.out];clear n1 n2 hB0
    go_loopw [16,17] (fun ov x w'=>∃(i ol:Nat) (O:List Nat) (oa:Nat) (oc:Nat),i<=ol/\ol<=200/\x=.int .i64 i/\ov=.slice (some ⟨oa,0,none⟩) ol oc/\Hid (ol=O.length)/\Hid ((∃r,Or A E O i r 0)\/(i=O.length/\O=reps (alB A) A.N))/\BO fb N B0 A (.slice (some ⟨oa,0,none⟩) ol oc) O w4 w') (fun _ x _=>201-(intOf x).toNat)
    case atStart=>exact⟨0,1,[0],B0,1,by omega,by omega,rfl,rfl,rfl,Or.inl ⟨0,HO0.out⟩,HBO.out⟩
    case round=>
     clear HBO HO0;obtain⟨i,ol,O,oa,oc,hi,hol,rfl,rfl,Hol,HOr,BOi⟩:=hrel;by_cases hlt:i<ol
     ·have hlt':(i:Int)<ol:=by omega
      have hor:∃r,Or A E O i r 0:=by
       rcases HOr.out with h|⟨h,_⟩
       ·exact h
       ·have:=Hol.out;omega
      obtain⟨r,hor⟩:=hor;have HO1:=hyd hor;have HBO1:=hyd BOi;clear hor HOr BOi;go_wp2_with fail
      go_loopw [16,18] (fun ov x w'=>∃(b ol:Nat) (O:List Nat) (oa:Nat) (oc:Nat),b<=256/\i<ol/\ol<=200/\x=.int .i64 b/\ov=.slice (some ⟨oa,0,none⟩) ol oc/\Hid (ol=O.length)/\Hid (Or A E O i r b)/\BO fb N B0 A (.slice (some ⟨oa,0,none⟩) ol oc) O w4 w') (fun _ x _=>256-(intOf x).toNat)
      case atStart=>exact⟨0,ol,O,oa,oc,by omega,hlt,hol,rfl,rfl,Hol,HO1,HBO1.out⟩
      case round=>
       clear HBO1 HO1 Hol hol hlt hlt';obtain⟨b,ol,O,oa,oc,hb,hil,hol,rfl,rfl,Hol,HOr,BOi⟩:=hrel;have hil':(i:Int)<ol:=by omega
       by_cases hbl:b<256
       ·have hbl':(b:Int)<256:=by omega
        obtain⟨x1,x2,x3,x4,x5⟩:=HX.out;have hrN:r<N:=by rw[x4];exact HOr.out.r
        have co:wr.cell? ⟨oa,i,none⟩=some (.int .i64 (r:Int)):=by
         obtain⟨ad,cap,e,il⟩:=BOi.o.il;cases e;obtain⟨g,o,e1,e2⟩:=il i (by rw[List.length_map,<-Hol.out];exact hil);cases e1;rw[Nat.zero_add]at e2;rw[e2];simp only[q3r];rw[List.getD_eq_getElem?_getD,HOr.out.i];rfl
        have HTo:=hyd (q6d pb N A.vd nx (reps E 256) r b wr (by omega) (H4.out.2.2.2.below BOi.b) (by omega) hbl);have hst:=Or.step x5 HOr.out hbl;rw[<-x4]at hst;obtain⟨to,hto⟩:=nam (toR N nx r b);rw[<-hto]at HTo hst;have hto1:to<=N:=by rw[hto,x4];exact(x5.to (by omega) hbl).1
        have hto':(to:Int)<N+1:=by omega
        obtain⟨cf,_⟩:=BOi.f to _ (q1l _ (show to<N+1 by omega));obtain⟨xx,hxx⟩:=nam (frsF A to);rw[<-hxx]at cf;have HBOi:=hyd BOi;rcases hst with ⟨s1,s2⟩|⟨m,s1,s2,s3⟩
        ·have hxN:xx=N:=by rw[hxx,s1,x4];exact q6x A
         have q1:¬(xx:Int)<N:=by omega
         have HO2:=hyd s2;clear BOi hxx hto s1 s2 x1 x2 x3 x4 x5;go_wp2_with fail;refine HTo.out.mono ?_;rintro e w8 ⟨rfl,rfl⟩;go_wp2_with fail;go_roundw
         case rel=>exact⟨b+1,ol,O,oa,oc,by omega,hil,hol,by go_num,rfl,Hol,HO2,HBOi.out⟩
         case measure=>simp[intOf];omega
        ·subst s1;have hxl:xx=least (alB A) to:=by rw[hxx];unfold frsF;rw[if_neg (by omega)]
         have hxN:xx<N:=by rw[hxx,x4];exact y2n (by omega)
         have hxN':(xx:Int)<N:=by omega
         have hxN2:(xx:Int)<N+1:=by omega
         rw[<-hxl]at s3;obtain⟨cn,cnf⟩:=BOi.n xx _ (q1l _ (show xx<N+1 by omega));obtain⟨nb1,nb2,nb3⟩:=y2J O xx;rcases s3 with ⟨s4,s5⟩|⟨s4,s5⟩
         ·obtain⟨nv,hnv⟩:=nam (numF O xx);rw[<-hnv]at cn;have hnv0:0<=nv:=by rw[hnv];exact nb2 s4
          have q1:(nv==-1)=false:=by simp;omega
          have HO2:=hyd s5;clear BOi hxx hto s2 s4 s5 hxl x1 x2 x3 x4 x5 hnv nb1 nb2 nb3;go_wp2_with fail;refine HTo.out.mono ?_;rintro e w8 ⟨rfl,rfl⟩;go_wp2_with fail;go_roundw
          case rel=>exact⟨b+1,ol,O,oa,oc,by omega,hil,hol,by go_num,rfl,Hol,HO2,HBOi.out⟩
          case measure=>simp[intOf];omega
         ·rw[nb3 s4]at cn;have q1:((-1:Int)==-1)=true:=rfl;have HO2:=hyd s5;have Hs4:=hyd s4;have hol1:ol+1<=200:=by
           have h1:=s5.o;have h2:(O++[xx]).length=cnt (alB A) (kn A (r*A.K+cnt E (b+1))):=by rw[h1];rfl
           have h3:=cnt_le (alB A) (kn A (r*A.K+cnt E (b+1)));have h5:r*A.K+cnt E (b+1)<=A.N*A.K:=by
            have h6:=cnt_mono E (show b+1<=256 by omega);have h7:cnt E 256=A.K:=by rw[x5.k];rfl
            have h8:(r+1)*A.K<=A.N*A.K:=Nat.mul_le_mul_right _ (by omega);rw[Nat.succ_mul]at h8;omega
           have h4:=kn_le x5.b h5;rw[List.length_append,List.length_singleton,<-Hol.out]at h2;omega
          obtain⟨w9,hw9⟩:=nam (wr.setCell ⟨fb+1,xx,none⟩ (.int .i64 (ol:Int)));have Hw9:=hyd hw9;have z9:w9.heap.size=wr.heap.size:=by rw[hw9,World.size_setCell]
          have hx9:=box_bel w9 (.cells #[.int .i64 (xx:Int)] 3);have hO9:OwnL B0 (.slice (some ⟨oa,0,none⟩) ol oc) (O.map fun x:Nat=>(x:Int)) (w9.alloc (.cells #[.int .i64 (xx:Int)] 3)):=by
           have h1:OwnL B0 (.slice (some ⟨oa,0,none⟩) ol oc) (O.map fun x:Nat=>(x:Int)) w9:=BOi.o.keep (fun k hk=>by
            rw[hw9];exact Below.heap_setCell wr ⟨fb+1,xx,none⟩ _ k (fun e=>by
             have e':k=fb+1:=e;have:=(BOi.o.blk k hk).1;have:=BOi.z;omega))
           exact h1.below hx9
          have hnw:(w9.alloc (.cells #[.int .i64 (xx:Int)] 3)).cell? ⟨wr.heap.size,0,none⟩=some (.int .i64 (xx:Int)):=by rw[<-z9,World.cell?_alloc_new];rfl
          have hbs:B0<=(w9.alloc (.cells #[.int .i64 (xx:Int)] 3)).heap.size:=by have:=hx9.size;have:=BOi.z;omega
          have Hlen:Hid ((O.map fun x:Nat=>(x:Int)).length=ol):=by show _=_;rw[List.length_map,Hol.out]
          have Hn:Hid (∀g cap w5,(w9.alloc (.cells #[.int .i64 (xx:Int)] 3)).grownBy w5 (Value.slice (some ⟨oa,0,none⟩) ol oc).ownBlock->OwnL B0 (.slice (some ⟨g,0,none⟩) (ol+1) cap) ((O.map fun x:Nat=>(x:Int))++[(xx:Int)]) w5->BO fb N B0 A (.slice (some ⟨g,0,none⟩) (ol+1) cap) (O++[xx]) w4 w5):=fun g cap w5 h1 h2=>by
           rw[Hw9.out,Hol.out]at h1;rw[Hol.out]at h2 ⊢;exact(Hol.out▸HBOi.out).app Hs4.out (by omega) h1 h2
          clear BOi hxx hto s2 s4 s5 hxl x1 x2 x3 x4 x5 nb1 nb2 nb3 hx9 hw9 z9;go_wp2_with fail;refine HTo.out.mono ?_;rintro e w8 ⟨rfl,rfl⟩;go_wp2_with (first|(with_reducible show wpList _ _ _ (⟨_,Op.call { callee:=Callee.builtin Builtin.append,args:=_,argTypes:=_ },_,_,_,_⟩::_) _ _;refine Stop.out ?_));refine⟨?_⟩;rw[<-Hw9.out];refine Bm.wpList_append_int (by rfl) _ _ (by rfl) B0 (.slice (some ⟨oa,0,none⟩) ol oc) _ (by rfl) hO9 (by rw[Hlen.out];omega) w8.heap.size (xx:Int) (by rfl) hnw hbs _ rfl ?_;rw[Hlen.out];intro g5 cap5 w10 hO10 hgrow10 hgb10 _;have BOn:=Hn.out g5 cap5 w10 hgrow10 hO10;clear hO10 hgrow10 hgb10 hO9 hnw hbs Hn;go_wp2_with fail;go_roundw
          case rel=>exact⟨b+1,ol+1,O++[xx],g5,cap5,by omega,by omega,hol1,by go_num,rfl,by show _=_;rw[List.length_append,Hol.out];rfl,HO2,BOn⟩
          case measure=>simp[intOf];omega
       ·have hge:¬(b:Int)<256:=by omega
        have hb2:b=256:=by omega
        subst hb2;have HOn:Hid ((∃r,Or A E O (i+1) r 0)\/(i+1=O.length/\O=reps (alB A) A.N)):=by
         rcases Or.next HX.out.2.2.2.2 HOr.out with ⟨r',_,h2⟩|⟨h1,h2⟩
         ·exact Or.inl ⟨r',h2⟩
         ·exact Or.inr ⟨h1.symm,h2⟩
        go_wp2_with fail;go_roundw
        case rel=>exact⟨i+1,ol,O,oa,oc,by omega,hol,by go_num,rfl,Hol,HOn,BOi⟩
        case measure=>simp[intOf];omega
     ·have hge:¬(i:Int)<ol:=by omega
      have hO:O=reps (alB A) A.N:=by
       rcases HOr.out with ⟨r,h⟩|⟨_,h⟩
       ·have:=(List.getElem?_eq_some_iff.1 h.i).1;have:=Hol.out;omega
       ·exact h
      have hN2:=HX.out.2.2.2.1;have hOm:∀x∈O,x<N:=fun x hx=>by rw[hO,q3m]at hx;rw[hN2];exact hx.1
      by_cases h96:96<ol
      ·have h96':(96:Int)<ol:=by omega
       have T8:TC w.heap.size macZ wr:=H4.out.1.block (BOi.b.block _ (by have:=H4.out.2.2.1;omega));have BB8:Below w.heap.size w wr:=H4.out.2.1.trans (BOi.b.mono (by have:=H4.out.2.2.1;omega));obtain⟨tz,BX,hfin,_⟩:=q1e (.int .i64 0) (.slice none 0 0) (.slice none 0 0) (.slice none 0 0) T8 BB8;obtain⟨WX,hWX⟩:∃W,W=wr.setCells w.heap.size 0 [.int .i64 0,.slice none 0 0,.slice none 0 0,.slice none 0 0]:=⟨_,rfl⟩;rw[<-hWX]at BX hfin;have HWX:Hid (WX=wr.setCells w.heap.size 0 [.int .i64 0,.slice none 0 0,.slice none 0 0,.slice none 0 0]):=hWX;have Hfin:Hid ((loadVar 25 ⟨w.heap.size,0,none⟩).run Tryz.prog WX=.ok (.agg #[.int .i64 0,.slice none 0 0,.slice none 0 0,.slice none 0 0]) WX):=hfin;have HR:Hid (RBPost es n w (.returned (.tuple #[.agg macZ.toArray,.int .i64 9])) WX):=⟨BX,Or.inr ⟨l,t,A,nx,O,HX.out.2.1,HX.out.1,HX.out.2.2.1,hO,Or.inl ⟨by rw[<-Hol.out];exact h96,rfl⟩⟩⟩;clear hWX hfin T8 BB8 BX BOi hO HOr hOm;go_wp2_with (first|(with_reducible refine gst 25 ?_;refine Stop.out ?_));refine⟨?_⟩;refine wpList_store_mid rfl 25 _ _ rfl w.heap.size 0 #[.int .i64 0,.slice none 0 0,.slice none 0 0,.slice none 0 0] rfl rfl tz q0D (by simp[Value.oneCell']) ?_;rw[List.toList_toArray,<-HWX.out];go_wp2_with fail;exact bodyPost_ret (v:=.tuple #[.agg macZ.toArray,.int .i64 9]) (q0L Tryz.results10 rfl Hfin.out rfl) rfl HR.out
      ·have h96':¬(96:Int)<ol:=by omega
       have hmk:(Instr.makeSlice 53 (.int .i64 (ol:Int)) (.int .i64 (ol:Int))).run Tryz.prog wr=.ok (.slice (some ⟨wr.heap.size,0,none⟩) ol ol) (wr.alloc (.cells (nilL ol).toArray 23)):=q7J wr ol (by omega);have hx0:=box_bel wr (.cells (nilL ol).toArray 23);have HRT0:Hid (RT wr (fun _=>0) 0 ol (rwB A nx O) (wr.alloc (.cells (nilL ol).toArray 23))):=by
        refine⟨?_,fun j hj=>by omega,hx0,by simp⟩;have:=TC.boxed wr (nilL ol) 23;have e:rwC (fun _=>0) 0 ol=nilL ol:=by unfold rwC nilL;exact List.map_congr_left (fun j _=>by rw[if_neg (by omega)])
        rw[e];exact this
       have HBc:=hyd BOi;have HOc:=hyd3 hO hOm Hol.out;obtain⟨Wc,hWc⟩:=nam wr;rw[<-hWc]at HRT0 HBc;have HWc:=hyd hWc;clear BOi hO HOr hOm hx0 hWc;go_wp2_with fail;clear hmk;rw[<-HWc.out];clear HWc
       go_loopw [21] (fun x w'=>∃(i:Nat) (xb:Nat->Nat),i<=ol/\x=.int .i64 i/\RT Wc xb i ol (rwB A nx O) w') (fun x _=>ol-(intOf x).toNat)
       case atStart=>exact⟨0,_,by omega,rfl,HRT0.out⟩
       case round=>
        clear HRT0;obtain⟨i,xb,hi,rfl,RTi⟩:=hrel;by_cases hil:i<ol
        ·have hil':(i:Int)<ol:=by omega
         obtain⟨xk,hxk⟩:=nam wr.heap.size;have hmk:(Instr.makeSlice 23 (.int .i64 256) (.int .i64 256)).run Tryz.prog wr=.ok (.slice (some ⟨wr.heap.size,0,none⟩) 256 256) (wr.alloc (.cells (zeroI 256).toArray 3)):=q1M wr 256 (by omega);have hx1:=box_bel wr (.cells (zeroI 256).toArray 3);have hzz:=RTi.z;have c1:=RTi.c.block (hx1.block Wc.heap.size (by omega));obtain⟨k1,k2⟩:=c1 i _ (q6T xb i hil);have c2:=c1.set i (by rw[q5S];exact hil) (.slice (some ⟨xk,0,none⟩) 256 256);rw[y2x xb hil xk]at c2;have hbk:∀q,q≠Wc.heap.size->((wr.alloc (.cells (zeroI 256).toArray 3)).setCell ⟨Wc.heap.size,i,none⟩ (.slice (some ⟨xk,0,none⟩) 256 256)).heap[q]?=(wr.alloc (.cells (zeroI 256).toArray 3)).heap[q]?:=fun q hq=>Below.heap_setCell _ ⟨Wc.heap.size,i,none⟩ _ q (fun e=>hq e)
         obtain⟨w7,hw7⟩:=nam ((wr.alloc (.cells (zeroI 256).toArray 3)).setCell ⟨Wc.heap.size,i,none⟩ (.slice (some ⟨xk,0,none⟩) 256 256));have H7:Hid (TC Wc.heap.size (rwC (upV xb i xk) (i+1) ol) w7/\TC xk (inl (fun c=>if c<0 then rwB A nx O i c else 0) 256) w7/\(∀j,j<i->TC (xb j) (inl (rwB A nx O j) 256) w7/\Wc.heap.size<xb j/\xb j<xk)/\Below Wc.heap.size Wc w7/\xk<w7.heap.size/\Wc.heap.size<xk):=by
          rw[<-hw7]at c2 hbk;have z7:w7.heap.size=(wr.alloc (.cells (zeroI 256).toArray 3)).heap.size:=by rw[hw7,World.size_setCell]
          have z8:(wr.alloc (.cells (zeroI 256).toArray 3)).heap.size=wr.heap.size+1:=by simp
          refine⟨c2,?_,fun j hj=>?_,?_,by omega,by omega⟩
          ·have:=TC.boxed wr (zeroI 256) 3;rw[<-hxk]at this;rw[q0C (g:=fun _=>0) (fun c _=>by rw[if_neg (by omega)])];exact this.block (hbk xk (by omega))
          ·obtain⟨r1,r2,r3⟩:=RTi.r j hj;exact⟨(r1.block (hx1.block _ r3)).block (hbk _ (by omega)),r2,by omega⟩
          ·rw[hw7];exact(RTi.b.trans (hx1.mono (by omega))).setCell (p:=⟨Wc.heap.size,i,none⟩) (Nat.le_refl _) _
         have Hw7:=hyd hw7;have Hxk:=hyd hxk;obtain⟨tbR,htbR⟩:=nam Wc.heap.size;have HtbR:=hyd htbR;rw[<-htbR]at k1 k2;rw[if_neg (by omega)]at k1;clear RTi c1 c2 hbk hw7 hxk hx1 htbR hzz;rw[<-HtbR.out];go_wp2_with fail;rw[<-Hxk.out];clear hmk k1 k2;have Hw7':Hid (w7=(wr.alloc (.cells (zeroI 256).toArray 3)).setCell ⟨tbR,i,none⟩ (.slice (some ⟨xk,0,none⟩) 256 256)):=by show _=_;rw[HtbR.out];exact Hw7.out
         rw[<-Hw7'.out]
         go_loopw [22] (fun x w'=>∃b:Nat,b<=256/\x=.int .i64 b/\TC Wc.heap.size (rwC (upV xb i xk) (i+1) ol) w'/\TC xk (inl (fun c=>if c<b then rwB A nx O i c else 0) 256) w'/\(∀j,j<i->TC (xb j) (inl (rwB A nx O j) 256) w'/\Wc.heap.size<xb j/\xb j<xk)/\Below Wc.heap.size Wc w'/\xk<w'.heap.size/\Wc.heap.size<xk) (fun x _=>256-(intOf x).toNat)
         case atStart=>exact⟨0,by omega,rfl,H7.out⟩
         case round=>
          clear H7;obtain⟨b,hb,rfl,c1,c2,c3,Bw,z1,z2⟩:=hrel;by_cases hbl:b<256
          ·have hbl':(b:Int)<256:=by omega
           have BOw:=HBc.out.below Bw;obtain⟨o1,o2,o3⟩:=HOc.out;obtain⟨r,hr⟩:∃r,O[i]?=some r:=⟨_,List.getElem?_eq_getElem (by omega)⟩;have hrd:O.getD i 0=r:=by rw[List.getD_eq_getElem?_getD,hr];rfl
           have hrN:=o2 r (List.mem_of_getElem? hr);have co:wr.cell? ⟨oa,i,none⟩=some (.int .i64 (r:Int)):=by
            obtain⟨ad,cap,e,il⟩:=BOw.o.il;cases e;obtain⟨g,o,e1,e2⟩:=il i (by rw[List.length_map];omega);cases e1;rw[Nat.zero_add]at e2;rw[e2];simp only[q3r];rw[hrd]
           obtain⟨ct,_⟩:=c1 i _ (q6T _ _ hil);rw[if_pos (by omega),q0i,<-HtbR.out]at ct;have HTo:=hyd (q6d pb N A.vd nx (reps E 256) r b wr.drew (by omega) (H4.out.2.2.2.below BOw.b.drew) (by omega) hbl);obtain⟨to,hto⟩:=nam (toR N nx r b);rw[<-hto]at HTo;have hto1:to<=N:=by rw[hto,hN2];exact(HX.out.2.2.2.2.to (by omega) hbl).1
           have hto':(to:Int)<N+1:=by omega
           obtain⟨cf,_⟩:=BOw.f to _ (q1l _ (show to<N+1 by omega));obtain⟨xx,hxx⟩:=nam (frsF A to);rw[<-hxx]at cf;have hxN:xx<=N:=by
            rw[hxx];by_cases e:to=A.N
            ·rw[e,q6x];omega
            ·have:=y2n (A:=A) (i:=to) (by omega);omega
           have hxN':(xx:Int)<N+1:=by omega
           have hto3:(to:Int)<(A.N:Int)+1:=by omega
           have hxN3:(xx:Int)<(A.N:Int)+1:=by omega
           obtain⟨cn,_⟩:=BOw.n xx _ (q1l _ (show xx<N+1 by omega));obtain⟨nv,hnv⟩:=nam (numF O xx);rw[<-hnv]at cn;have hval:nv=rwB A nx O i b:=by unfold rwB;rw[hnv,hxx,hto,hrd,hN2]
           obtain⟨rc1,rc2⟩:=c2 b _ (q1l _ hbl);have Hn:Hid (TC Wc.heap.size (rwC (upV xb i xk) (i+1) ol) (wr.setCell ⟨xk,b,none⟩ (.int .i64 nv))/\TC xk (inl (fun c=>if c<b+1 then rwB A nx O i c else 0) 256) (wr.setCell ⟨xk,b,none⟩ (.int .i64 nv))/\(∀j,j<i->TC (xb j) (inl (rwB A nx O j) 256) (wr.setCell ⟨xk,b,none⟩ (.int .i64 nv))/\Wc.heap.size<xb j/\xb j<xk)/\Below Wc.heap.size Wc (wr.setCell ⟨xk,b,none⟩ (.int .i64 nv))/\xk<(wr.setCell ⟨xk,b,none⟩ (.int .i64 nv)).heap.size/\Wc.heap.size<xk):=by
            have hbk:∀q,q≠xk->(wr.setCell ⟨xk,b,none⟩ (.int .i64 nv)).heap[q]?=wr.heap[q]?:=fun q hq=>Below.heap_setCell wr ⟨xk,b,none⟩ _ q (fun e=>hq e)
            refine⟨c1.block (hbk _ (by omega)),?_,fun j hj=>?_,Bw.setCell (p:=⟨xk,b,none⟩) (by show _<=xk;omega) _,by rw[World.size_setCell];exact z1,z2⟩
            ·have h1:=c2.set b (by rw[q1d];exact hbl) (.int .i64 nv);rw[q1B]at h1;rw[q0C (g:=fun c=>if c=b then nv else if c<b then rwB A nx O i c else 0) (fun c _=>?_)]
             ·exact h1
             ·by_cases e:c=b
              ·subst e;simp[hval]
              ·by_cases e2:c<b
               ·simp[e,e2,show c<b+1 by omega]
               ·simp[e,e2,show ¬c<b+1 by omega]
            ·obtain⟨r1,r2,r3⟩:=c3 j hj;exact⟨r1.block (hbk _ (by omega)),r2,r3⟩
           have HS1:Hid ((fun w'=>w'.cell? ⟨tbR,i,none⟩=some (.slice (some ⟨xk,0,none⟩) 256 256)/\w'.cell? ⟨oa,i,none⟩=some (.int .i64 (r:Int))/\w'.cell? ⟨fb,to,none⟩=some (.int .i64 (xx:Int))/\w'.cell? ⟨fb+1,xx,none⟩=some (.int .i64 nv)) (wr.setCell ⟨xk,b,none⟩ (.int .i64 nv))):=by
            have q1:oa<Wc.heap.size:=by
             obtain⟨ad,cap,e,il⟩:=HBc.out.o.il;cases e;obtain⟨g,o,e1,e2⟩:=il i (by rw[List.length_map];omega);cases e1;exact World.block_lt_of_cell? _ _ e2
            have q2:=HBc.out.z;have q3:=HtbR.out;refine⟨?_,?_,?_,?_⟩
            ·rw[World.cell?_setCell_far _ _ _ _ (by show xk≠tbR;omega)];exact ct
            ·rw[World.cell?_setCell_far _ _ _ _ (by show xk≠oa;omega)];exact co
            ·rw[World.cell?_setCell_far _ _ _ _ (by show xk≠fb;omega)];exact cf
            ·rw[World.cell?_setCell_far _ _ _ _ (by show xk≠fb+1;omega)];exact cn
           clear c1 c2 c3 Bw BOw o1 o2 o3 hr hrd hto hxx hnv hval;go_wp2_with fail;have hS0:(fun w'=>w'.cell? ⟨tbR,i,none⟩=some (.slice (some ⟨xk,0,none⟩) 256 256)/\w'.cell? ⟨oa,i,none⟩=some (.int .i64 (r:Int))/\w'.cell? ⟨fb,to,none⟩=some (.int .i64 (xx:Int))/\w'.cell? ⟨fb+1,xx,none⟩=some (.int .i64 nv)) wr.drew:=⟨ct,co,cf,cn⟩;refine wp_region_held_drew (S:=fun w'=>w'.cell? ⟨tbR,i,none⟩=some (.slice (some ⟨xk,0,none⟩) 256 256)/\w'.cell? ⟨oa,i,none⟩=some (.int .i64 (r:Int))/\w'.cell? ⟨fb,to,none⟩=some (.int .i64 (xx:Int))/\w'.cell? ⟨fb+1,xx,none⟩=some (.int .i64 nv)) (by kernel_rfl) hS0 (fun hHeld=>?_);refine wpAnyH_take (i:=0) (oi:=?oQ0) (v:=?vQ0) ?hiQ0 ?hsQ0 ?hfQ0 ?hrQ0 ?hQQ0 (Or.inl ⟨?hwQ0,?hyQ0⟩) ?hSQ0 ?restQ0
           case hiQ0=>simp only[List.getElem?_toArray,List.getElem?_cons_zero];rfl
           case hsQ0=>kernel_rfl
           case hfQ0=>kernel_rfl
           case hrQ0=>kernel_rfl
           case hQQ0=>exact fun _ _ _ h=>h
           case hSQ0=>assumption
           case hwQ0=>rfl
           case hyQ0=>intro w' hSw;obtain⟨s1,s2,s3,s4⟩:=hSw;go_simp;first|done|with_reducible rfl
           (try simp only[psm])
           refine wpAnyH_take (i:=1) (by simp only[gel];rfl) (by kernel_rfl) (by kernel_rfl) (by kernel_rfl) (by exact fun _ _ _ h=>h) (Or.inl ⟨by rfl,by intro w' hSw;obtain⟨s1,s2,s3,s4⟩:=hSw;go_simp;first|done|with_reducible rfl⟩) (by assumption) ?_
           (try simp only[psm])
           refine wpAnyH_take (i:=2) (by simp only[gel];rfl) (by kernel_rfl) (by kernel_rfl) (by kernel_rfl) (by exact fun _ _ _ h=>h) (Or.inl ⟨by rfl,by intro w' hSw;obtain⟨s1,s2,s3,s4⟩:=hSw;go_simp;first|done|with_reducible rfl⟩) (by assumption) ?_
           (try simp only[psm])
           refine wpAnyH_take (i:=3) (by simp only[gel];rfl) (by kernel_rfl) (by kernel_rfl) (by kernel_rfl) (by exact fun _ _ _ h=>h) (Or.inl ⟨by rfl,by intro w' hSw;obtain⟨s1,s2,s3,s4⟩:=hSw;go_simp;first|done|with_reducible rfl⟩) (by assumption) ?_
           (try simp only[psm])
           refine wpAnyH_take (i:=4) (by simp only[gel];rfl) (by kernel_rfl) (by kernel_rfl) (by kernel_rfl) (by exact fun _ _ _ h=>h) (Or.inl ⟨by rfl,by intro w' hSw;obtain⟨s1,s2,s3,s4⟩:=hSw;go_simp;first|done|with_reducible rfl⟩) (by assumption) ?_
           (try simp only[psm])
           refine wpAnyH_take (i:=5) (by simp only[gel];rfl) (by kernel_rfl) (by kernel_rfl) (by kernel_rfl) (by exact fun _ _ _ h=>h) (Or.inl ⟨by rfl,by intro w' hSw;obtain⟨s1,s2,s3,s4⟩:=hSw;go_simp;first|done|with_reducible rfl⟩) (by assumption) ?_
           (try simp only[psm])
           refine wpAnyH_take (i:=6) (by simp only[gel];rfl) (by kernel_rfl) (by kernel_rfl) (by kernel_rfl) (by exact fun _ _ _ h=>h) (Or.inl ⟨by rfl,by intro w' hSw;obtain⟨s1,s2,s3,s4⟩:=hSw;go_simp;first|done|with_reducible rfl⟩) (by assumption) ?_
           (try simp only[psm])
           refine wpAnyH_take (i:=7) (by simp only[gel];rfl) (by kernel_rfl) (by kernel_rfl) (by kernel_rfl) (by exact fun _ _ _ h=>h) (Or.inl ⟨by rfl,by intro w' hSw;obtain⟨s1,s2,s3,s4⟩:=hSw;go_simp;first|done|with_reducible rfl⟩) (by assumption) ?_
           (try simp only[psm])
           refine wpAnyH_take (i:=8) (by simp only[gel];rfl) (by kernel_rfl) (by kernel_rfl) (by kernel_rfl) (by exact fun _ _ _ h=>h) (Or.inl ⟨by rfl,by intro w' hSw;obtain⟨s1,s2,s3,s4⟩:=hSw;go_simp;first|done|with_reducible rfl⟩) (by assumption) ?_
           (try simp only[psm])
           refine wpAnyH_take (i:=9) (by simp only[gel];rfl) (by kernel_rfl) (by kernel_rfl) (by kernel_rfl) (by exact fun _ _ _ h=>h) (Or.inl ⟨by rfl,by intro w' hSw;obtain⟨s1,s2,s3,s4⟩:=hSw;go_simp;first|done|with_reducible rfl⟩) (by assumption) ?_
           (try simp only[psm])
           refine wpAnyH_take (i:=10) (by simp only[gel];rfl) (by kernel_rfl) (by kernel_rfl) (by kernel_rfl) (by exact fun _ _ _ h=>h) (Or.inl ⟨by rfl,by intro w' hSw;obtain⟨s1,s2,s3,s4⟩:=hSw;go_simp;first|done|with_reducible rfl⟩) (by assumption) ?_
           (try simp only[psm])
           refine wpAnyH_take (i:=11) (by simp only[gel];rfl) (by kernel_rfl) (by kernel_rfl) (by kernel_rfl) (by exact fun _ _ _ h=>h) (Or.inl ⟨by rfl,by intro w' hSw;obtain⟨s1,s2,s3,s4⟩:=hSw;go_simp;first|done|with_reducible rfl⟩) (by assumption) ?_
           (try simp only[psm])
           refine wpAnyH_take (i:=12) (by simp only[gel];rfl) (by kernel_rfl) (by kernel_rfl) (by kernel_rfl) (by exact fun _ _ _ h=>h) (Or.inl ⟨by rfl,by intro w' hSw;obtain⟨s1,s2,s3,s4⟩:=hSw;go_simp;first|done|with_reducible rfl⟩) (by assumption) ?_
           (try simp only[psm])
           refine wpAnyH_ready (rs:=[13]) (by kernel_rfl) (by simp) ?_;refine AllReadyH.cons (o:=?oQ13) ?hiQ13 (fun K hK=>?_) AllReadyH.nil
           case hiQ13=>simp only[gel];rfl
           go_simp;refine Calls.mono HTo.out ?_;rintro e w8 ⟨rfl,rfl⟩;go_wp2_with fail;refine hK.out _ _ hS0 (fun hHeld=>?_);clear hK K
           (try simp only[psm])
           refine wpAnyH_take (i:=14) (by simp only[gel];rfl) (by kernel_rfl) (by kernel_rfl) (by kernel_rfl) (by exact fun _ _ _ h=>h) (Or.inl ⟨by rfl,by intro w' hSw;obtain⟨s1,s2,s3,s4⟩:=hSw;go_simp;first|done|with_reducible rfl⟩) (by assumption) ?_
           (try simp only[psm])
           refine wpAnyH_take (i:=15) (by simp only[gel];rfl) (by kernel_rfl) (by kernel_rfl) (by kernel_rfl) (by exact fun _ _ _ h=>h) (Or.inl ⟨by rfl,by intro w' hSw;obtain⟨s1,s2,s3,s4⟩:=hSw;go_simp;first|done|with_reducible rfl⟩) (by assumption) ?_
           (try simp only[psm])
           refine wpAnyH_take (i:=16) (by simp only[gel];rfl) (by kernel_rfl) (by kernel_rfl) (by kernel_rfl) (by exact fun _ _ _ h=>h) (Or.inl ⟨by rfl,by intro w' hSw;obtain⟨s1,s2,s3,s4⟩:=hSw;go_simp;first|done|with_reducible rfl⟩) (by assumption) ?_
           (try simp only[psm])
           refine wpAnyH_take (i:=17) (by simp only[gel];rfl) (by kernel_rfl) (by kernel_rfl) (by kernel_rfl) (by exact fun _ _ _ h=>h) (Or.inl ⟨by rfl,by intro w' hSw;obtain⟨s1,s2,s3,s4⟩:=hSw;go_simp;first|done|with_reducible rfl⟩) (by assumption) ?_
           (try simp only[psm])
           refine wpAnyH_take (i:=18) (by simp only[gel];rfl) (by kernel_rfl) (by kernel_rfl) (by kernel_rfl) (by exact fun _ _ _ h=>h) (Or.inl ⟨by rfl,by intro w' hSw;obtain⟨s1,s2,s3,s4⟩:=hSw;go_simp;first|done|with_reducible rfl⟩) (by assumption) ?_
           (try simp only[psm])
           refine wpAnyH_ready (rs:=[19]) (by kernel_rfl) (by simp) ?_;refine AllReadyH.cons (o:=?oQ19) ?hiQ19 (fun K hK=>?_) AllReadyH.nil
           case hiQ19=>simp only[gel];rfl
           go_simp;refine hK.out _ _ HS1.out (fun hHeld=>?_);clear hK K
           (try simp only[psm])
           refine wpAnyH_done (by kernel_rfl) ?_ _;go_wp2_with fail
           (try simp only[Act.put])
           go_roundw
           case rel=>exact⟨b+1,by omega,by go_num,Hn.out.1,Hn.out.2.1,Hn.out.2.2.1,Hn.out.2.2.2.1.drew,Hn.out.2.2.2.2.1,Hn.out.2.2.2.2.2⟩
           case measure=>simp[intOf];omega
          ·have hge3:¬(b:Int)<256:=by omega
           have hb2:b=256:=by omega
           subst hb2;have HRTn:Hid (RT Wc (upV xb i xk) (i+1) ol (rwB A nx O) wr):=by
            refine⟨c1,fun j hj=>?_,Bw,by omega⟩;by_cases e:j=i
            ·subst e;rw[q0i];refine⟨?_,z2,z1⟩;rw[q0C (g:=fun c=>if c<256 then rwB A nx O j c else 0) (fun c hc=>by rw[if_pos hc])];exact c2
            ·rw[q0f _ _ e];obtain⟨r1,r2,r3⟩:=c3 j (by omega);exact⟨r1,r2,by omega⟩
           clear c1 c2 c3 Bw;go_wp2_with fail;go_roundw
           case rel=>exact⟨i+1,_,by omega,by go_num,HRTn.out⟩
           case measure=>simp[intOf];omega
        ·have hge2:¬(i:Int)<ol:=by omega
         have hio:i=ol:=by omega
         rw[hio]at RTi hge2 ⊢;clear hio;obtain⟨o1,o2,o3⟩:=HOc.out;have hz4:=H4.out.2.2.1;have s4w:=HBc.out.b.size;have Bc4:=HBc.out.b.trans (RTi.b.mono s4w);have P5:=H4.out.2.2.2.below Bc4;have I5:IL (some ⟨oa,0,none⟩) (fun i=>((O.getD i 0:Nat):Int)) O.length wr:=by
          obtain⟨ad,cap,e,il⟩:=(HBc.out.below RTi.b).o.il;cases e;rw[List.length_map]at il;intro i hi;obtain⟨g,o,e1,e2⟩:=il i hi;exact⟨g,o,e1,by rw[e2];simp only[q3r]⟩
         have R5:RwB (some ⟨Wc.heap.size,0,none⟩) O.length (rwB A nx O) wr:=by rw[<-o3];exact RTi.rwb
         have HM5:Hid (Calls Tryz.prog 31 #[.pointer (some ⟨pb,0,none⟩),.int .i64 n,.slice (some ⟨oa,0,none⟩) ol oc,.slice (some ⟨Wc.heap.size,0,none⟩) ol ol] wr (MaR n O (rwB A nx O) A.vd wr)):=by
          have:=HMa.out wr pb A.vd nx (reps E 256) N (some ⟨oa,0,none⟩) oc O (some ⟨Wc.heap.size,0,none⟩) ol (rwB A nx O) P5 I5 R5 (by omega) (by omega) o2;rw[<-o3]at this;exact this
         have T5:TC w.heap.size macZ wr:=H4.out.1.block (Bc4.block _ (by omega));have BB5:Below w.heap.size w wr:=H4.out.2.1.trans (Bc4.mono (by omega));have HTB:Hid (TC w.heap.size macZ wr/\Below w.heap.size w wr/\w.heap.size<wr.heap.size):=⟨T5,BB5,by have:=Bc4.size;omega⟩;clear RTi hz4 s4w Bc4 P5 I5 R5 T5 BB5 o1 o2 o3;go_wp2_with fail
         with_reducible refine HM5.out.mono ?_
         rintro e w9 ⟨B9,MI⟩;have MI':=MI;obtain⟨ca,cc,la,lc,na,nc,rfl,_⟩:=MI';obtain⟨T5,BB5,z5⟩:=HTB.out;obtain⟨o1,o2,o3⟩:=HOc.out;have T9:TC w.heap.size macZ w9:=T5.block (B9.block _ z5);have BB9:Below w.heap.size w w9:=BB5.trans (B9.mono (by omega));obtain⟨tz,BX,hfin,hG⟩:=q1e (.int .i64 n) (.slice ca 256 cc) (.slice la O.length lc) (.slice na (O.length*cnt (Cl (rwB A nx O) O.length) 256) nc) T9 BB9;have HR:Hid (RBPost es n w (.returned (.tuple #[.agg #[.int .i64 n,.slice ca 256 cc,.slice la O.length lc,.slice na (O.length*cnt (Cl (rwB A nx O) O.length) 256) nc],.int .i64 0])) (w9.setCells w.heap.size 0 [.int .i64 n,.slice ca 256 cc,.slice la O.length lc,.slice na (O.length*cnt (Cl (rwB A nx O) O.length) 256) nc])):=by
          refine⟨BX,Or.inr ⟨l,t,A,nx,O,HX.out.2.1,HX.out.1,HX.out.2.2.1,o1,Or.inr ⟨by rw[<-o3];exact h96,_,wr.heap.size,rfl,MI.heap (fun k hk hl=>?_)⟩⟩⟩;exact hG.block k hl (fun e=>by have:=Option.some.inj e;omega)
         obtain⟨vn,hvn⟩:=nam (O.length*cnt (Cl (rwB A nx O) O.length) 256);rw[<-hvn]at hfin HR;rw[<-hvn];obtain⟨WX,hWX⟩:=nam (w9.setCells w.heap.size 0 [.int .i64 n,.slice ca 256 cc,.slice la O.length lc,.slice na vn nc]);rw[<-hWX]at hfin HR;have HWX:=hyd hWX;have Hfin:=hyd hfin;clear hWX hfin hG BX MI T5 BB5 T9 BB9 B9 o1 o2 o3 hvn;go_wp2_with (first|(with_reducible refine gst 25 ?_;refine Stop.out ?_));refine⟨?_⟩;refine wpList_store_mid rfl 25 _ _ rfl w.heap.size 0 #[.int .i64 n,.slice ca 256 cc,.slice la O.length lc,.slice na vn nc] rfl rfl tz q0D (by simp[Value.oneCell']) ?_;rw[List.toList_toArray,<-HWX.out];go_wp2_with fail;exact bodyPost_ret (v:=.tuple #[.agg #[.int .i64 n,.slice ca 256 cc,.slice la O.length lc,.slice na vn nc],.int .i64 0]) (q0L Tryz.results10 rfl Hfin.out rfl) rfl HR.out
end Go.Proofs.YtoaaklhpmhjhkaaGreat
