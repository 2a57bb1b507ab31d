import Derived.Test.YtoaaklhpmhjhkabC13
import Derived.Test.YtoaaklhpmhjhkabC24
set_option maxRecDepth 100000
set_option maxHeartbeats 4000000
set_option linter.all false
namespace Go.Proofs.Ytoaaklhpmhjhkab
open Go.RowKit
open Bm
structure Vl (p:Prop):Prop where
 out:p
variable {a : Act}{B base n nb : Nat}{F : Nat → Bool}{bh hs : Nat → Nat → Bool}{o : Oper}{ad : Option Addr}{vb vb' vb2 vh vh' vh2 : Value}{w w' w'' : World}
theorem U8 (x:Operand) (ho:o.op=.buildSlice 107 1 #[(0,x)]) (f:Nat->Bool) (hx:a.eval x=.agg (bl f 256).toArray):
  (execOp a.eval o).run Try.prog w=.ok (.value (.slice (some ⟨w.heap.size,0,none⟩) 1 1)) (w.alloc (.cells (bl f 256).toArray 182)):=by
 unfold execOp;have hq:=PU f w;have e:(#[((0:Nat),x)].map fun(p:Nat × Operand)=>(p.1,a.eval p.2))=#[(0,.agg (bl f 256).toArray)]:=by simp[hx]
 simp only[ho,Sem.run_bind,e,hq,Result.andThen_ok,Sem.run_pure]
def Ii (n:Nat):Nat->Bool:=fun i=>i==1+n || i==97+n
structure PC (base:Nat) (vh vb:Value) (nb n:Nat) (hs bh:Nat->Nat->Bool) (m:Nat) (F f c:Nat->Bool) (w W:World):Prop where
 ct:TC nb (vh::vb::bl F 104) W
 oh:Xh base vh (Wq n hs) W
 ob:Ya base vb (Wq m bh) W
 ne:∀k,vh.ownBlock=some k->vb.ownBlock≠some k
 st:TC w.heap.size (bl f 256) W
 zt:TC (w.heap.size+1) (bl (fun _=>false) 193) W
 ot:TC (w.heap.size+2) (bl c 193) W
 bw:Below nb w W
 nh:∀k,vh.ownBlock=some k->k<w.heap.size\/w.heap.size+3<=k
 nv:∀k,vb.ownBlock=some k->k<w.heap.size\/w.heap.size+3<=k
theorem LG (nb base:Nat) (vh vb:Value) (n:Nat) (hs bh:Nat->Nat->Bool) (F f:Nat->Bool) (w:World) (hN:YF nb base vh vb n hs bh F w) (hnb:nb<base) (hbw:base<=w.heap.size) (hn:n<96):
  Calls Try.prog 127 #[.pointer (some ⟨nb,0,none⟩),.agg (bl f 256).toArray] w fun e w'=>∃vh' vb',e=.returned (.agg (bl (Ii n) 193).toArray)/\YF nb base vh' vb' (n+1) (fun p=>if p=n then f else hs p) (fun p=>if p=n then (fun _=>false) else bh p) F w'/\NF nb vh vb vh' vb' w w':=by
 have hz:=Xc;have hnw:=hN.c.lt;have HN:=hyd hN;obtain⟨W1,hW1⟩:=nam (w.alloc (.cells (bl f 256).toArray 182));obtain⟨W2,hW2⟩:=nam (W1.alloc (.cells (bl (fun _=>false) 193).toArray 178));obtain⟨W3,hW3⟩:=nam (W2.alloc (.cells (bl (fun _=>false) 193).toArray 178));have z1:W1.heap.size=w.heap.size+1:=by rw[hW1];simp
 have z2:W2.heap.size=w.heap.size+2:=by rw[hW2];simp[z1]
 have z3:W3.heap.size=w.heap.size+3:=by rw[hW3];simp[z2]
 have S0:TC w.heap.size (bl f 256) W3/\TC (w.heap.size+1) (bl (fun _=>false) 193) W3/\TC (w.heap.size+2) (bl (fun _=>false) 193) W3/\Below w.heap.size w W3:=by
  have T1:=TC.boxed w (bl f 256) 182;have T2:=TC.boxed W1 (bl (fun _=>false) 193) 178;have T3:=TC.boxed W2 (bl (fun _=>false) 193) 178;have x1:=box_bel w (.cells (bl f 256).toArray 182);have x2:=box_bel W1 (.cells (bl (fun _=>false) 193).toArray 178);have x3:=box_bel W2 (.cells (bl (fun _=>false) 193).toArray 178);rw[<-hW1]at T1 x1;rw[<-hW2,z1]at T2 x2;rw[<-hW3,z2]at T3 x3;exact⟨(T1.block (x2.block _ (by omega))).block (x3.block _ (by omega)),T2.block (x3.block _ (by omega)),T3,(x1.trans (x2.mono (by omega))).trans (x3.mono (by omega))⟩
 obtain⟨s1,s2,s3,B3⟩:=S0;have N3:=hN.below B3;obtain⟨ad,cap,eh,_⟩:=hN.h.at_;rw[X3]at eh;have Heh:=hyd eh;have c0:W3.cell? ⟨nb,0,none⟩=some (.slice ad n cap):=by rw[<-eh];exact(N3.c 0 _ rfl).1
 have c0f:W3.frozen? ⟨nb,0,none⟩=false:=(N3.c 0 _ rfl).2;have hrs:=s1.range;have HW:Hid (W3=((w.alloc (.cells (bl f 256).toArray 182)).alloc (.cells (bl (fun _=>false) 193).toArray 178)).alloc (.cells (bl (fun _=>false) 193).toArray 178)):=by show _=_;rw[hW3,hW2,hW1]
 have Hz3:=hyd z3;have HS0:=hyd5 s2 s3 s1 B3 N3;have hge:¬(96:Int)<=n:=by omega
 rw[HW.out]at c0;clear hN hW1 hW2 hW3 z1 z2 z3 s1 s2 s3 B3 N3 eh;go_enter Try.func127,Try.ntmps127;go_wp2_with fail;rw[<-HW.out];rw[<-HW.out]at c0;clear HW;refine wp_region_any (by kernel_rfl) ?_;change wpAny _ _ _ _ 11 _ _ W3.drew;refine wpAny_take (i:=0) (oi:=?o0) (v:=?v0) ?hi0 ?hs0 ?hf0 ?hr0 ?hQ0 (Or.inl ⟨?hw0,?hy0⟩) ?rest0
 case hi0=>simp only[List.getElem?_toArray,List.getElem?_cons_zero];rfl
 case hs0=>kernel_rfl
 case hf0=>kernel_rfl
 case hr0=>kernel_rfl
 case hQ0=>exact fun _ _ _ h=>h
 case hw0=>rfl
 case hy0=>intro w';go_simp;first|done|with_reducible rfl
 (try simp only[psm])
 refine wpAny_take (i:=1) (oi:=?o1) (v:=?v1) ?hi1 ?hs1 ?hf1 ?hr1 ?hQ1 (Or.inl ⟨?hw1,?hy1⟩) ?rest1
 case hi1=>simp only[gel];rfl
 case hs1=>kernel_rfl
 case hf1=>kernel_rfl
 case hr1=>kernel_rfl
 case hQ1=>exact fun _ _ _ h=>h
 case hw1=>rfl
 case hy1=>intro w';go_simp;first|done|with_reducible rfl
 (try simp only[psm])
 refine wpAny_take (i:=2) (oi:=?o2) (v:=?v2) ?hi2 ?hs2 ?hf2 ?hr2 ?hQ2 (Or.inl ⟨?hw2,?hy2⟩) ?rest2
 case hi2=>simp only[gel];rfl
 case hs2=>kernel_rfl
 case hf2=>kernel_rfl
 case hr2=>kernel_rfl
 case hQ2=>exact fun _ _ _ h=>h
 case hw2=>rfl
 case hy2=>intro w';go_simp;first|done|with_reducible rfl
 (try simp only[psm])
 refine wpAny_take (i:=3) (oi:=?o3) (v:=?v3) ?hi3 ?hs3 ?hf3 ?hr3 ?hQ3 (Or.inl ⟨?hw3,?hy3⟩) ?rest3
 case hi3=>simp only[gel];rfl
 case hs3=>kernel_rfl
 case hf3=>kernel_rfl
 case hr3=>kernel_rfl
 case hQ3=>exact fun _ _ _ h=>h
 case hw3=>rfl
 case hy3=>intro w';go_simp;first|done|with_reducible rfl
 (try simp only[psm])
 obtain⟨W4,hW4⟩:=nam (W3.drew.alloc (.cells (bl f 256).toArray 182));have hnew:W4.rangeAt W3.drew.heap.size 0 (bl f 256):=by rw[hW4];exact(TC.boxed W3.drew (bl f 256) 182).range
 have x4:Below W3.heap.size W3 W4:=by rw[hW4];exact(Below.refl W3.heap.size W3).drew.trans (show Below W3.heap.size W3.drew _ from box_bel W3.drew _)
 have q4:=c0;have q4':W4.cell? ⟨nb,0,none⟩=some (.slice ad n cap):=by rw[<-Heh.out];exact((HS0.out.2.2.2.2.below x4).c 0 _ rfl).1
 refine UK (fuel:=4) 4 5 6 (o4:=?o4) (o5:=?o5) (o6:=?o6) (v4:=.slice ad n cap) (v5:=.agg (bl f 256).toArray) (v6:=.slice (some ⟨W3.drew.heap.size,0,none⟩) 1 1) (L:=#[true,true,true,true,true,true,true,false,false,false,false]) (A:=?A) (w':=W4)
  ?h4 ?h5 ?h6 ?g4 ?g5 ?g6 ?r0 ?r1 ?r2 ?r3 ?r4 ?r5 ?x4 ?y4 ?z4 ?x5 ?y5 ?x6 ?y6 ?z6 ?l1 ?l2 ?l3 ?f1 ?f2 ?f3 ?fin
 case h4=>simp only[gel];rfl
 case h5=>simp only[gel];rfl
 case h6=>simp only[gel];rfl
 case g4=>rfl
 case g5=>rfl
 case g6=>rfl
 case r0=>kernel_rfl
 case r1=>kernel_rfl
 case r2=>kernel_rfl
 case r3=>kernel_rfl
 case r4=>kernel_rfl
 case r5=>kernel_rfl
 case x4=>go_simp
 case y4=>simp only[psm];go_simp
 case z4=>clear hW4;simp only[psm];go_simp
 case x5=>exact X7 182 _ rfl w.heap.size 0 rfl (bl f 256) _ (fun j v hv=>hrs j v hv) Try.underlying182 rfl (by rw[Y7];exact SX)
 case y5=>exact X7 182 _ rfl w.heap.size 0 rfl (bl f 256) _ (fun j v hv=>hrs j v hv) Try.underlying182 rfl (by rw[Y7];exact SX)
 case x6=>rw[hW4];exact U8 _ rfl f rfl
 case y6=>rw[hW4];exact U8 _ rfl f rfl
 case z6=>rw[hW4];exact U8 _ rfl f rfl
 case l1=>kernel_rfl
 case l2=>kernel_rfl
 case l3=>kernel_rfl
 case f1=>simp only[psm];rfl
 case f2=>simp only[psm]
 case f3=>simp only[psm]
 refine Xb 7 rfl (by kernel_rfl) ?_;simp only[List.drop_succ_cons,List.drop_zero];obtain⟨D,hD⟩:=nam W3.drew.heap.size;rw[<-hD]at hnew ⊢;have HD:Hid (D=w.heap.size+3):=by show _=_;rw[hD];exact Hz3.out
 obtain⟨g2,g3,g1,gB,gN⟩:=HS0.out;have P4:PC base vh vb nb n hs bh n F f (fun _=>false) w W4:=by
  have N4:=gN.below x4;have hb1:=HN.out.h.blk;have hb2:=HN.out.b.blk;exact⟨N4.c,N4.h,N4.b,N4.ne,g1.block (x4.block _ g1.ltB),g2.block (x4.block _ g2.ltB),g3.block (x4.block _ g3.ltB),(gB.mono (by omega)).trans (x4.mono (by have:=gB.size;omega)),fun k hk=>Or.inl (hb1 k hk).2,fun k hk=>Or.inl (hb2 k hk).2⟩
 have hbs:base<=W4.heap.size:=by have:=P4.bw.size;omega
 have hz4:W4.heap.size=w.heap.size+4:=by
  rw[hW4];have:=Hz3.out;show(W3.drew.alloc _).heap.size=_;simp[this]
 have Hz4:=hyd hz4;have HK4:Hid (∀k,k<w.heap.size->W4.heap[k]?=w.heap[k]?):=fun k hk=>by rw[x4.block k (by have:=Hz3.out;omega)];exact gB.block k hk
 have HP4:=hyd P4;have hO4:=P4.oh;clear c0 c0f hrs x4 q4 q4' hW4 hD g1 g2 g3 gB gN HS0 Hz3 P4 hz4;refine Uk (by rfl) _ _ (by rfl) base vh (Wq n hs) (by rw[Heh.out];rfl) hO4 (by rw[X3];omega) D f (by rfl) hnew hbs _ rfl ?_;rw[X3];intro g cap2 w5 hO5 hgrow hgb5 hl5;have P4:=HP4.out;have hgb:g<w.heap.size\/w.heap.size+3<=g:=by
  rcases hgb5 with h|h
  ·exact P4.nh g h
  ·have:=Hz4.out;omega
 have hne5:vb.ownBlock≠some g:=by
  rcases hgb5 with h|h
  ·exact P4.ne g h
  ·intro e;have:=(P4.ob.blk g e).2;omega
 have hblk5:=(hO5.blk g rfl).1;have kb:∀k,k<W4.heap.size->vh.ownBlock≠some k->w5.heap[k]?=W4.heap[k]?:=fun k hk hne=>hgrow.block k hk (fun e=>hne e.symm)
 have hcell:=P4.ct.block (kb nb P4.ct.lt (fun e=>by have:=(P4.oh.blk nb e).1;omega));obtain⟨cx,cxf⟩:=hcell 0 _ rfl;have K5:=hcell.set 0 (by simp) (.slice (some ⟨g,0,none⟩) (n+1) cap2);obtain⟨W6,hW6⟩:=nam (w5.setCell ⟨nb,0,none⟩ (.slice (some ⟨g,0,none⟩) (n+1) cap2));rw[<-hW6]at K5;have hb6:∀k,k≠nb->W6.heap[k]?=w5.heap[k]?:=fun k hk=>by rw[hW6];exact Below.heap_setCell w5 ⟨nb,0,none⟩ _ k (fun e=>hk e)
 have hz5:=hgrow.size;have hzz:=Hz4.out;have hmk:Wq n hs++[f]=Wq (n+1) (fun p=>if p=n then f else hs p):=by
  rw[Ov];congr 1
  ·exact List.map_congr_left (fun p hp=>by
     have:p<n:=by simpa using hp
     rw[if_neg (by omega)])
  ·simp
 rw[hmk]at hO5;have hnhA:∀k,w.heap.size<=k->k<w.heap.size+3->vh.ownBlock≠some k:=fun k h1 h2 e=>by have:=P4.nh k e;omega
 have P6:PC base (.slice (some ⟨g,0,none⟩) (n+1) cap2) vb nb (n+1) (fun p=>if p=n then f else hs p) bh n F f (fun _=>false) w W6:=by
  have B5:Below nb w w5:=P4.bw.grown hgrow (by have:=P4.bw.size;omega) (fun q hq=>by have:=(P4.oh.blk q hq).1;omega);refine⟨K5,hO5.keep (fun k hk=>hb6 k (by cases hk;show g≠nb;omega)),(P4.ob.keep (fun k hk=>kb k (P4.ob.blk k hk).2 (fun e=>P4.ne k e hk))).keep (fun k hk=>hb6 k (fun e=>by have:=(P4.ob.blk k hk).1;omega)),fun k hk=>by cases hk;exact hne5,?_,?_,?_,?_,fun k hk=>by cases hk;exact hgb,P4.nv⟩
  ·exact(P4.st.block (kb _ (by omega) (hnhA _ (by omega) (by omega)))).block (hb6 _ (by omega))
  ·exact(P4.zt.block (kb _ (by omega) (hnhA _ (by omega) (by omega)))).block (hb6 _ (by omega))
  ·exact(P4.ot.block (kb _ (by omega) (hnhA _ (by omega) (by omega)))).block (hb6 _ (by omega))
  ·rw[hW6];exact B5.setCell (p:=⟨nb,0,none⟩) (Nat.le_refl _) _
 have HK6:Hid (∀k,k<w.heap.size->k≠nb->vh.ownBlock≠some k->W6.heap[k]?=w.heap[k]?):=fun k h1 h2 h3=>by
  rw[hb6 k h2,kb k (by omega) h3];exact HK4.out k h1
 have HG:Hid (vh.ownBlock=some g\/w.heap.size<=g):=by
  rcases hgb5 with h|h
  ·exact Or.inl h
  ·exact Or.inr (by omega)
 have HP6:=hyd P6;have HW6:=hyd hW6;obtain⟨bad,bcap,eb,_⟩:=P6.ob.at_;rw[X3]at eb;have Heb:=hyd eb;have d1:W6.cell? ⟨nb,1,none⟩=some (.slice bad n bcap):=by rw[<-eb];exact(P6.ct 1 _ rfl).1
 have e1:w5.cell? ⟨nb,1,none⟩=some (.slice bad n bcap):=by rw[<-eb];exact(hcell 1 _ rfl).1
 have hz6:W6.heap.size=w5.heap.size:=by rw[hW6];simp[World.setCell]
 obtain⟨W7,hW7⟩:=nam (W6.alloc (.cells (bl (fun _=>false) 104).toArray 113));have x7:Below W6.heap.size W6 W7:=by rw[hW7];exact box_bel _ _
 have hnew7:W7.rangeAt W6.heap.size 0 (bl (fun _=>false) 104):=by rw[hW7];exact(TC.boxed W6 _ _).range
 have hO7:=P6.ob.below x7;have hbs7:base<=W7.heap.size:=by have:=x7.size;omega
 have HW7:=hyd hW7;have Hx7:=hyd x7;have Hzz:Hid (w.heap.size+4<=W6.heap.size/\w.heap.size+4=W4.heap.size):=⟨by omega,by omega⟩;have Hblk5:Hid (base<=g/\g<W6.heap.size):=⟨hblk5,by omega⟩;clear P4 hgb hgb5 hblk5 kb hcell K5 hb6 hz5 hzz hmk hnhA P6 eb hW6 hW7 x7 hO4 hne5 hnew hbs hz6;clear hO5 hgrow;go_wp2_with (first|(with_reducible show wpList _ _ _ (⟨_,Op.build 113 _,_,_,_,_⟩::_) _ _;rw[<-HW6.out];refine WP rfl rfl ?_;refine Vl.out ?_));refine⟨?_⟩
 (try simp only[psm])
 refine Sr rfl _ rfl (fun _=>false) rfl ?_;rw[<-HW7.out]
 (try simp only[psm])
 refine Xm (by rfl) _ _ (by rfl) base vb (Wq n bh) (by rw[Heb.out];rfl) hO7 (by rw[X3];omega) W6.heap.size (fun _=>false) (by rfl) hnew7 hbs7 _ rfl ?_;rw[X3];intro gg cap3 w8 hO8 hgrow8 hgb8 hl8
 (try simp only[psm])
 have P6:=HP6.out;have hzz:=Hzz.out;have hx7:=Hx7.out;have hb5:=Hblk5.out;have kb:∀k,k<W6.heap.size->vb.ownBlock≠some k->w8.heap[k]?=W6.heap[k]?:=fun k hk hne=>by
  rw[hgrow8.block k (by have:=hx7.size;omega) (fun e=>hne e.symm)];exact hx7.block k hk
 have hz7:W7.heap.size=W6.heap.size+1:=by rw[HW7.out];simp
 have hgg:=(hO8.blk gg rfl).1;have hggA:gg<w.heap.size\/w.heap.size+3<=gg:=by
  rcases hgb8 with h|h
  ·exact P6.nv gg h
  ·omega
 have hcell:=P6.ct.block (kb nb P6.ct.lt (fun e=>by have:=(P6.ob.blk nb e).1;omega));obtain⟨cx,cxf⟩:=hcell 1 _ rfl;have K9:=hcell.set 1 (by simp) (.slice (some ⟨gg,0,none⟩) (n+1) cap3);have hnvA:∀k,w.heap.size<=k->k<w.heap.size+3->vb.ownBlock≠some k:=fun k h1 h2 e=>by have:=P6.nv k e;omega
 have T2:=P6.ot.block (kb _ (by omega) (hnvA _ (by omega) (by omega)));have T1:=P6.zt.block (kb _ (by omega) (hnvA _ (by omega) (by omega)));have hnb2:nb≠w.heap.size+2:=by omega
 obtain⟨u1,u1f⟩:=T2 (1+n) _ (YN _ (by omega));obtain⟨u2,u2f⟩:=T2 (97+n) _ (YN _ (by omega));obtain⟨W9,hW9⟩:=nam (w8.setCell ⟨nb,1,none⟩ (.slice (some ⟨gg,0,none⟩) (n+1) cap3));rw[<-hW9]at K9;have hb9:∀k,k≠nb->W9.heap[k]?=w8.heap[k]?:=fun k hk=>by rw[hW9];exact Below.heap_setCell w8 ⟨nb,1,none⟩ _ k (fun e=>hk e)
 have V2:=T2.block (hb9 (w.heap.size+2) (by omega));have V1:=T1.block (hb9 (w.heap.size+1) (by omega));have V2a:=V2.set (1+n) (by rw[Y7];omega) (.bool true);rw[Vm]at V2a;have V2b:=V2a.set (97+n) (by rw[Y7];omega) (.bool true);rw[Vm,YO (g:=Ii n) (fun i _=>by
  unfold Ii;by_cases e1:i=97+n
  ·simp[e1]
  ·by_cases e2:i=1+n
   ·simp[e2]
   ·simp[e1,e2])]at V2b
 obtain⟨W11,hW11⟩:∃W,W=(W9.setCell ⟨w.heap.size+2,1+n,none⟩ (.bool true)).setCell ⟨w.heap.size+2,97+n,none⟩ (.bool true):=⟨_,rfl⟩;rw[<-hW11]at V2b;have hb11:∀k,k≠w.heap.size+2->W11.heap[k]?=W9.heap[k]?:=fun k hk=>by
  rw[hW11,Below.heap_setCell _ ⟨w.heap.size+2,97+n,none⟩ _ k (fun e=>hk e),Below.heap_setCell _ ⟨w.heap.size+2,1+n,none⟩ _ k (fun e=>hk e)]
 have V1b:=V1.block (hb11 (w.heap.size+1) (by omega));obtain⟨M,hM⟩:∃M,M=bl (Ii n) 193:=⟨_,rfl⟩;rw[<-hM]at V2b;have hMl:M.length=193:=by rw[hM];exact Y7 _ _
 have rM:=V2b.range;have tz:=Yn V1b;have hGr:=Y4 (w.heap.size+1) M 0 W11;have hr':=World.rangeAt_setCells_same W11 (w.heap.size+1) 0 M (by rw[hMl];exact tz);have hfin:=run_loadVar_mid (P:=Try.prog) (W11.setCells (w.heap.size+1) 0 M) (w.heap.size+1) 0 178 M _ hr' Try.underlying178 rfl (by rw[hMl];exact Y2);obtain⟨WX,hWX⟩:∃W,W=W11.setCells (w.heap.size+1) 0 M:=⟨_,rfl⟩;rw[<-hWX]at hGr hfin;have hz8:=hgrow8.size;have hz9:W9.heap.size=w8.heap.size:=by rw[hW9];simp[World.setCell]
 have hz11:W11.heap.size=w8.heap.size:=by rw[hW11];simp[World.setCell,hz9]
 have kx:∀k,k<w8.heap.size->k≠w.heap.size+1->k≠w.heap.size+2->k≠nb->WX.heap[k]?=w8.heap[k]?:=fun k h0 h1 h2 h3=>by
  rw[hGr.block k (by omega) (fun e=>h1 (Option.some.inj e)),hb11 k h2,hb9 k h3]
 have hne8:∀k,(Value.slice (some ⟨g,0,none⟩) (n+1) cap2).ownBlock=some k->(Value.slice (some ⟨gg,0,none⟩) (n+1) cap3).ownBlock≠some k:=fun k hk e=>by
  cases hk;have e2:gg=g:=Option.some.inj e;rcases hgb8 with h|h
  ·rw[e2]at h;exact P6.ne g rfl h
  ·have:=hb5.2;omega
 have NX:YF nb base (.slice (some ⟨g,0,none⟩) (n+1) cap2) (.slice (some ⟨gg,0,none⟩) (n+1) cap3) (n+1) (fun p=>if p=n then f else hs p) (fun p=>if p=n then (fun _=>false) else bh p) F WX:=by
  have hmk:Wq n bh++[fun _=>false]=Wq (n+1) (fun p=>if p=n then (fun _=>false) else bh p):=by
   rw[Ov];congr 1
   ·exact List.map_congr_left (fun p hp=>by
      have:p<n:=by simpa using hp
      rw[if_neg (by omega)])
   ·simp
  rw[hmk]at hO8;have hg6:=P6.nh g rfl;refine⟨(K9.block (hb11 nb hnb2)).block (hGr.block nb (by omega) (fun e=>by have:=Option.some.inj e;omega)),P6.oh.keep (fun k hk=>?_),hO8.keep (fun k hk=>?_),hne8⟩
  ·cases hk;rw[kx g (by omega) (by omega) (by omega) (by omega)];exact kb g hb5.2 (fun e=>P6.ne g rfl e)
  ·cases hk;exact kx gg (by have:=hl8;omega) (by omega) (by omega) (by omega)
 have FX:NF nb vh vb (.slice (some ⟨g,0,none⟩) (n+1) cap2) (.slice (some ⟨gg,0,none⟩) (n+1) cap3) w WX:=by
  have B6:=P6.bw;have B7:Below nb w W7:=B6.trans (hx7.mono (by omega));have B8:Below nb w w8:=B7.grown hgrow8 (by have:=B7.size;omega) (fun q hq=>by have:=(P6.ob.blk q hq).1;omega);have B9:Below nb w W9:=by rw[hW9];exact B8.setCell (p:=⟨nb,1,none⟩) (Nat.le_refl _) _
  have B11:Below nb w W11:=by
   rw[hW11];exact(B9.setCell (p:=⟨w.heap.size+2,1+n,none⟩) (by show nb<=w.heap.size+2;omega) _).setCell (p:=⟨w.heap.size+2,97+n,none⟩) (by show nb<=w.heap.size+2;omega) _
  refine⟨B11.grown hGr (by have:=B11.size;omega) (fun q hq=>by cases hq;omega),fun k h1 h2 h3 h4=>?_,fun k hk=>?_,fun k hk=>?_⟩
  ·rw[kx k (by omega) (by omega) (by omega) h2,kb k (by omega) h4];exact HK6.out k h1 h2 h3
  ·cases hk;exact HG.out
  ·cases hk;rcases hgb8 with h|h
   ·exact Or.inl h
   ·exact Or.inr (by show w.heap.size<=gg;omega)
 have HWX:=hyd hWX;have HW11:Hid (W11=((w8.setCell ⟨nb,1,none⟩ (.slice (some ⟨gg,0,none⟩) (n+1) cap3)).setCell ⟨w.heap.size+2,1+n,none⟩ (.bool true)).setCell ⟨w.heap.size+2,97+n,none⟩ (.bool true)):=by show _=_;rw[hW11,hW9]
 have Hfin:=hyd hfin;have HMl:=hyd hMl;have HOM:Hid (M.toArray.all (·.oneCell')=true):=by show _=true;rw[hM];exact YK _ _
 have HM:=hyd hM;clear P6 hzz hx7 hb5 kb hz7 hgg hggA hcell K9 hnvA T2 T1 hW9 hb9 V2 V1 V2a V2b hW11 hb11 V1b hM hMl hGr hr' hfin hWX hz8 hz9 hz11 kx hne8 hO8 hgrow8 hgb8 hl8 hnew7 hbs7 hO7 e1 d1;go_wp2_with (first|(with_reducible refine gld 178 ?_;rw[show w.heap.size+1+1=w.heap.size+2 from rfl,<-HW11.out];refine wpList_load_mid rfl 178 _ rfl (w.heap.size+2) 0 rfl M _ rM Try.underlying178 rfl (by rw[HMl.out];exact Y2) ?_)|(with_reducible refine gst 178 ?_;refine wpList_store_mid rfl 178 _ _ rfl (w.heap.size+1) 0 M.toArray rfl rfl (by simpa[HMl.out]using tz) (by simpa[HMl.out]using Y2) HOM.out ?_;rw[List.toList_toArray,<-HWX.out]));refine bodyPost_ret (v:=.agg M.toArray) (res_load1 Try.results127 rfl Hfin.out) rfl ?_;exact⟨_,_,by rw[HM.out],NX,FX⟩
open Pg (Pt)
theorem Hz (ps:List Pt):∀op i,TR ps op i=So (ps.map fun p=>p.kd) op i:=by
 induction ps with
 |nil=>intro op i;rfl
 |cons p ps ih=>intro op i;simp only[TR,List.map_cons,So,ih]
theorem Iq (ps:List Pt):∀op i,Xd ps op i=VV (ps.map fun p=>p.kd) op i:=by
 induction ps with
 |nil=>intro op i;rfl
 |cons p ps ih=>intro op i;simp only[Xd,List.map_cons,VV,ih]
variable {ps : List Pt}{e : Rx}
theorem Kt {f:Nat}{r:List Tq}{rest:List Int} (h:Pp f 1 r e) (hk:ps.map (fun p=>p.kd)=kds r++rest) (hr:rest=[]\/∃t,rest=4::t):TR ps 0 0=r.length:=by
 rw[Hz,hk,(NT f 1 r e h).2.1 0 0 rest (Or.inr ⟨rfl,Nat.le_refl _⟩)];rcases hr with rfl|⟨t,rfl⟩
 ·simp[So]
 ·simp[So]
theorem KH (ps:List Pt) (m:Nat):∀(u i:Nat),i<=m->m<u+i->(∀j,i<=j->j<m->∃p,ps[j]?=some p/\Pg.isSuffix p.kd=true)->(∀p,ps[m]?=some p->Pg.isSuffix p.kd=false)->QK ps u i=m:=by
 intro u
 induction u with
 |zero=>intro i h1 h2;omega
 |succ u ih=>
  intro i h1 h2 h3 h4;rw[QK];by_cases e:i=m
  ·subst e;rcases hp:ps[i]? with _|p
   ·rfl
   ·simp only[h4 p hp];rfl
  ·obtain⟨p,hp,hs⟩:=h3 i (Nat.le_refl _) (by omega);rw[hp];simp only[hs,if_true];exact ih (i+1) (by omega) (by omega) (fun j a b=>h3 j (by omega) b) h4
theorem Ne {f:Nat}{t:List Tq}{rest:List Int} (h:Pp f 0 t e) (hk:ps.map (fun p=>p.kd)=kds t++rest) (hr:∀k r,rest=k::r->Pg.isSuffix k=false):Rq ps=t.length:=by
 obtain⟨m,m1,m2,m3,m4⟩:=(NT f 0 t e h).2.2 rfl;have hl:ps.length=t.length+rest.length:=by
  have:=congrArg List.length hk;simpa[Se]using this
 unfold Rq;rw[Iq,hk,m3 0 rest,Nat.zero_add];have hat:∀(j:Nat) (p:Pt),ps[j]?=some p->(kds t++rest)[j]?=some p.kd:=fun j p hp=>by rw[<-hk,List.getElem?_map,hp];rfl
 refine KH ps t.length _ m m2 (by omega) (fun j a b=>?_) (fun p hp=>?_)
 ·have hj:j<ps.length:=by omega
  refine⟨ps[j],List.getElem?_eq_getElem hj,?_⟩;have h1:=hat j _ (List.getElem?_eq_getElem hj);rw[List.getElem?_append_left (by rw[Se];exact b)]at h1;have h2:t[j]∈t.drop m:=by
   rw[List.mem_iff_getElem?];exact⟨j-m,by rw[List.getElem?_drop,show m+(j-m)=j by omega];exact List.getElem?_eq_getElem b⟩
  have h3:=m4 _ h2;simp only[kds,List.getElem?_map,List.getElem?_eq_getElem b,Option.map_some,Option.some.injEq]at h1;rw[<-h1];unfold Yr at h3;simp only[Pg.isSuffix,Bool.or_eq_true,beq_iff_eq];omega
 ·have h1:=hat _ p hp;rw[List.getElem?_append_right (by rw[Se];omega),Se,Nat.sub_self]at h1;rcases rest with _|⟨k,r⟩
  ·cases h1
  ·simp at h1;rw[<-h1];exact hr k r rfl
def YZ (e:Rx) (n:Nat):Nat->Bool:=fun i=>if i=0 then e.nul else if i<97 then e.fst n (i-1) else e.lst n (i-97)
def Vq (hs:Nat->Nat->Bool) (e:Rx) (n:Nat):Nat->Nat->Bool:=fun p b=>if p<n then hs p b else e.has n p b
def Vd (bh:Nat->Nat->Bool) (e:Rx) (n:Nat):Nat->Nat->Bool:=fun p q=>if p<n then bh p q else e.fol n p q
theorem G0 (a b:Rx) (n i:Nat) (hi:i<193):jn (YZ a n) (YZ b (n+a.sz)) i=YZ (.cat a b) n i:=by
 unfold jn YZ;by_cases h0:i=0
 ·subst h0;simp[Rx.nul]
 ·by_cases h1:i<97
  ·simp[h0,h1,Rx.fst]
  ·simp[h0,h1,Rx.lst]
theorem IG (bh:Nat->Nat->Bool) (a b:Rx) (n p q:Nat) (hn:n+a.sz+b.sz<=96) (hp:p<n+a.sz+b.sz):
  SB (Vd (Vd bh a n) b (n+a.sz)) (fun p=>YZ a n (97+p)) (fun q=>YZ b (n+a.sz) (1+q)) (n+a.sz+b.sz) p q=Vd bh (.cat a b) n p q:=by
 unfold SB Vd YZ;simp only[hp,decide_true,Bool.true_and,show ∀x:Nat,¬(97+x=0) from fun x=>by omega,show ∀x:Nat,¬(97+x<97) from fun x=>by omega,show ∀x:Nat,¬(1+x=0) from fun x=>by omega,if_false,Nat.add_sub_cancel_left];have hq:(decide (q<96)&&(if 1+q<97 then b.fst (n+a.sz) q else b.lst (n+a.sz) (1+q-97)))=b.fst (n+a.sz) q:=by
  by_cases h:q<96
  ·simp[h,show 1+q<97 by omega]
  ·simp only[h,decide_false,Bool.false_and];exact(Rx.fst_lt (Or.inr (by omega))).symm
 rw[Bool.and_assoc,hq];by_cases h1:p<n
 ·rw[if_pos (by omega),if_pos h1,if_pos h1,Rx.lst_lt (Or.inl h1)];simp
 ·by_cases h2:p<n+a.sz
  ·rw[if_pos h2,if_neg h1,if_neg h1];simp only[Rx.fol];rw[Rx.fol_lt (e:=b) (Or.inl h2)];simp
  ·rw[if_neg h2,if_neg h1,Rx.lst_lt (Or.inr (by omega))];simp only[Rx.fol];rw[Rx.fol_lt (e:=a) (Or.inr (Or.inl (by omega))),Rx.lst_lt (e:=a) (Or.inr (by omega))];simp
theorem Mj (hs:Nat->Nat->Bool) (a b:Rx) (n p c:Nat):Vq (Vq hs a n) b (n+a.sz) p c=Vq hs (.cat a b) n p c:=by
 unfold Vq;by_cases h1:p<n
 ·rw[if_pos (by omega),if_pos h1,if_pos h1]
 ·by_cases h2:p<n+a.sz
  ·rw[if_pos h2,if_neg h1,if_neg h1];simp only[Rx.has];rw[Rx.has_lt (e:=b) (Or.inl h2),Bool.or_false]
  ·rw[if_neg h2,if_neg h1];simp only[Rx.has];rw[Rx.has_lt (e:=a) (Or.inr (by omega)),Bool.false_or]
theorem LO (a b:Rx) (n i:Nat):(YZ a n i || YZ b (n+a.sz) i)=YZ (.alt a b) n i:=by
 unfold YZ;by_cases h0:i=0
 ·subst h0;simp[Rx.nul]
 ·by_cases h1:i<97
  ·simp[h0,h1,Rx.fst]
  ·simp[h0,h1,Rx.lst]
theorem Ir (bh:Nat->Nat->Bool) (a b:Rx) (n p q:Nat):Vd (Vd bh a n) b (n+a.sz) p q=Vd bh (.alt a b) n p q:=by
 unfold Vd;by_cases h1:p<n
 ·rw[if_pos (by omega),if_pos h1,if_pos h1]
 ·by_cases h2:p<n+a.sz
  ·rw[if_pos h2,if_neg h1,if_neg h1];simp only[Rx.fol];rw[Rx.fol_lt (e:=b) (Or.inl h2),Bool.or_false]
  ·rw[if_neg h2,if_neg h1];simp only[Rx.fol];rw[Rx.fol_lt (e:=a) (Or.inr (Or.inl (by omega))),Bool.false_or]
theorem IB (hs:Nat->Nat->Bool) (a b:Rx) (n p c:Nat):Vq (Vq hs a n) b (n+a.sz) p c=Vq hs (.alt a b) n p c:=Mj hs a b n p c
theorem On (bh:Nat->Nat->Bool) (a:Rx) (n p q:Nat) (hn:n+a.sz<=96) (hp:p<n+a.sz):
  SB (Vd bh a n) (fun p=>YZ a n (97+p)) (fun q=>YZ a n (1+q)) (n+a.sz) p q=Vd bh (.star a) n p q:=by
 unfold SB Vd YZ;simp only[hp,decide_true,Bool.true_and,show ∀x:Nat,¬(97+x=0) from fun x=>by omega,show ∀x:Nat,¬(97+x<97) from fun x=>by omega,show ∀x:Nat,¬(1+x=0) from fun x=>by omega,if_false,Nat.add_sub_cancel_left];have hq:(decide (q<96)&&(if 1+q<97 then a.fst n q else a.lst n (1+q-97)))=a.fst n q:=by
  by_cases h:q<96
  ·simp[h,show 1+q<97 by omega]
  ·simp only[h,decide_false,Bool.false_and];exact(Rx.fst_lt (Or.inr (by omega))).symm
 rw[Bool.and_assoc,hq];by_cases h1:p<n
 ·rw[if_pos h1,if_pos h1,Rx.lst_lt (Or.inl h1)];simp
 ·rw[if_neg h1,if_neg h1];rfl
def Ia (ad:Option Addr) (nb:Nat) (vh vb:Value) (w:World):Prop:=∀g o i,ad=some ⟨g,o,i⟩->g<w.heap.size/\g≠nb/\vh.ownBlock≠some g/\vb.ownBlock≠some g
theorem Ia.nf (h:Ia ad nb vh vb w) (f:NF nb vh vb vh' vb' w w'):Ia ad nb vh' vb' w':=fun g o i e=>by
 obtain⟨h1,h2,h3,h4⟩:=h g o i e;have hs:=f.b.size;refine⟨by omega,h2,fun x=>?_,fun x=>?_⟩
 ·rcases f.oh g x with h|h
  ·exact h3 h
  ·omega
 ·rcases f.ob g x with h|h
  ·exact h4 h
  ·omega
theorem Ia.sub (h:Ia ad nb vh vb w) (cap l:Nat):Ia (Sp ad cap l) nb vh vb w:=fun g o i e=>by
 unfold Sp at e;split at e
 ·exact h g o i e
 ·rcases ad with _|⟨g',o',i'⟩
  ·cases e
  ·simp only[Option.map_some,Option.some.injEq]at e;have:(Addr.add ⟨g',o',i'⟩ (l*261)).block=g':=by unfold Addr.add;split<;>rfl
   rw[e]at this;simp only at this;subst this;exact h g o' i' rfl
theorem PS.nf (h:PS ad ps w) (s:Ia ad nb vh vb w) (f:NF nb vh vb vh' vb' w w'):PS ad ps w':=h.keep (fun g o e=>by
 obtain⟨h1,h2,h3,h4⟩:=s g o none e;exact f.k g h1 h2 h3 h4)
structure UP (nb base:Nat) (vh vb:Value) (n:Nat) (hs bh:Nat->Nat->Bool) (F:Nat->Bool) (ad:Option Addr) (cap:Nat) (ps:List Pt) (w:World):Prop where
 net:YF nb base vh vb n hs bh F w
 lnb:nb<base
 bw:base<=w.heap.size
 prt:PS ad ps w
 len:ps.length<=100
 lcap:ps.length<=cap
 sep:Ia ad nb vh vb w
def WC (nb base:Nat) (vh vb:Value) (n:Nat) (hs bh:Nat->Nat->Bool) (F:Nat->Bool) (e:Rx) (w:World) (en:Ending) (w':World):Prop:=
 ∃vh' vb',en=.returned (.agg (bl (YZ e n) 193).toArray)/\YF nb base vh' vb' (n+e.sz) (Vq hs e n) (Vd bh e n) F w'/\NF nb vh vb vh' vb' w w'
def SL (fn:Nat) (k f:Nat):Prop:=∀(ts:List Tq) (e:Rx) (ps:List Pt) (ad:Option Addr) (cap nb base:Nat) (vh vb:Value) (n:Nat) (hs bh:Nat->Nat->Bool) (F:Nat->Bool) (w:World),Pp f k ts e->X9 Sm ps ts->UP nb base vh vb n hs bh F ad cap ps w->n+e.sz<=96->(∀p∈ps,0<=p.mo/\p.mo<=9) ->
 Calls Try.prog fn #[.pointer (some ⟨nb,0,none⟩),.slice ad ps.length cap] w (WC nb base vh vb n hs bh F e w)
theorem Tl (n i:Nat) (hi:i<193):YZ .eps n i=Ug i:=by
 unfold YZ Ug;by_cases h0:i=0
 ·subst h0;rfl
 ·simp[h0,Rx.fst,Rx.lst]
theorem M6 (h:YF nb base vh vb n hs bh F w):YF nb base vh vb (n+Rx.eps.sz) (Vq hs .eps n) (Vd bh .eps n) F w:=
 YF.congr (show YF nb base vh vb (n+0) hs bh F w from h) (fun p q hp _=>by unfold Vq;rw[if_pos (by simpa[Rx.sz]using hp)]) (fun p q hp _=>by unfold Vd;rw[if_pos (by simpa[Rx.sz]using hp)])
structure RW (nb base:Nat) (vh vb vh' vb':Value) (n:Nat) (hs bh:Nat->Nat->Bool) (F:Nat->Bool) (E:Rx) (w w':World) (A B:Nat):Prop where
 net:YF nb base vh' vb' (n+E.sz) (Vq hs E n) (Vd bh E n) F w'
 nf:NF nb vh vb vh' vb' w w'
 a:TC A (bl (fun _=>false) 193) w'
 b:TC B (bl (YZ E n) 193) w'
 o1:∀k,vh'.ownBlock=some k->k<A\/B<k
 o2:∀k,vb'.ownBlock=some k->k<A\/B<k
structure RC (nb base:Nat) (w:World) (A B:Nat):Prop where
 g1:nb<A
 g2:A<B
 g4:A=w.heap.size
 g7:nb<base
 g8:base<=w.heap.size
theorem RW.call {E:Rx}{A:Nat} (h:RW nb base vh vb vh' vb' n hs bh F E w w' A B) (c:RC nb base w A B) (hF:NF nb vh' vb' vh2 vb2 w' w''):
  TC A (bl (fun _=>false) 193) w''/\TC B (bl (YZ E n) 193) w''/\NF nb vh vb vh2 vb2 w w''/\(∀k,vh2.ownBlock=some k->k<A\/B<k)/\(∀k,vb2.ownBlock=some k->k<A\/B<k):=by
 have a1:=c.g1;have a2:=c.g2;have hb:=h.b.ltB;refine⟨h.a.block (hF.k A (by omega) (by omega) (fun e=>by have:=h.o1 A e;omega) (fun e=>by have:=h.o2 A e;omega)),h.b.block (hF.k B (by omega) (by omega) (fun e=>by have:=h.o1 B e;omega) (fun e=>by have:=h.o2 B e;omega)),h.nf.trans hF,fun k hk=>?_,fun k hk=>?_⟩
 ·rcases hF.oh k hk with e|e
  ·exact h.o1 k e
  ·exact Or.inr (by omega)
 ·rcases hF.ob k hk with e|e
  ·exact h.o2 k e
  ·exact Or.inr (by omega)
theorem VZ (w:World) (f:Nat->Bool):TC w.heap.size (bl f 193) ((w.alloc (.cells (bl (fun _=>false) 193).toArray 178)).setCells w.heap.size 0 (bl f 193))/\Below w.heap.size w ((w.alloc (.cells (bl (fun _=>false) 193).toArray 178)).setCells w.heap.size 0 (bl f 193))/\((w.alloc (.cells (bl (fun _=>false) 193).toArray 178)).setCells w.heap.size 0 (bl f 193)).heap.size=w.heap.size+1:=by
 have T:=TC.boxed w (bl (fun _=>false) 193) 178;have x:=box_bel w (.cells (bl (fun _=>false) 193).toArray 178);have hg:=Y4 w.heap.size (bl f 193) 0 (w.alloc (.cells (bl (fun _=>false) 193).toArray 178));refine⟨?_,x.grown hg x.size (fun q hq=>by cases hq;omega),by rw[VS];simp⟩;have:=T.setPart 0 193 f (by omega);rw[YO (g:=f) (fun i hi=>by unfold XK;rw[if_pos (by omega)];rfl)]at this;exact this
variable {e2 : Rx}
theorem RW.step {E:Rx}{W5 w6:World}{A:Nat} (c:RC nb base w A B) (hA:TC A (bl (fun _=>false) 193) W5) (hB:TC B (bl (YZ E n) 193) W5) (hf:NF nb vh vb vh2 vb2 w W5) (o1:∀k,vh2.ownBlock=some k->k<A\/B<k) (o2:∀k,vb2.ownBlock=some k->k<A\/B<k)
  (h6N:YF nb base vh2 vb2 (n+E.sz+e2.sz) (Vq (Vq hs E n) e2 (n+E.sz)) (SB (Vd (Vd bh E n) e2 (n+E.sz)) (fun p=>YZ E n (97+p)) (fun q=>YZ e2 (n+E.sz) (1+q)) (n+E.sz+e2.sz)) F w6) (h6F:NF nb vh2 vb2 vh2 vb2 W5 w6) (hn:n+E.sz+e2.sz<=96):
  w6.there B 0 193/\RW nb base vh vb vh2 vb2 n hs bh F (.cat E e2) w (w6.setCells B 0 (bl (jn (YZ E n) (YZ e2 (n+E.sz))) 193)) A B:=by
 have a1:=c.g1;have a2:=c.g2;have a4:=c.g4;have hb5:=hB.ltB;have TA:=hA.block (h6F.k A (by omega) (by omega) (fun e=>by have:=o1 A e;omega) (fun e=>by have:=o2 A e;omega));have TB:=hB.block (h6F.k B (by omega) (by omega) (fun e=>by have:=o1 B e;omega) (fun e=>by have:=o2 B e;omega));have hg:=Y4 B (bl (jn (YZ E n) (YZ e2 (n+E.sz))) 193) 0 w6;refine⟨Yn TB,?_⟩;have hN:=h6N.mine hg (by omega) (fun e=>by have:=o1 B e;omega) (fun e=>by have:=o2 B e;omega);have hF:=(hf.trans h6F).mine hg (by omega) (by omega);have hsz:(Rx.cat E e2).sz=E.sz+e2.sz:=rfl;refine⟨?_,hF,TA.block (hg.block A TA.ltB (fun e=>by have:=Option.some.inj e;omega)),?_,o1,o2⟩
 ·rw[hsz,<-Nat.add_assoc];exact hN.congr (fun p q _ _=>Mj hs E e2 n p q) (fun p q hp _=>IG bh E e2 n p q hn hp)
 ·have:=TB.setPart 0 193 (jn (YZ E n) (YZ e2 (n+E.sz))) (by omega);rw[YO (g:=YZ (.cat E e2) n) (fun i hi=>by unfold XK;rw[if_pos (by omega)];exact G0 E e2 n i hi)]at this;exact this
theorem MN (f:Nat) (hP:SL 118 0 f) (ts:List Tq) (e:Rx) (ps:List Pt) (ad:Option Addr) (cap nb base:Nat) (vh vb:Value) (n:Nat) (hs bh:Nat->Nat->Bool) (F:Nat->Bool) (le mo:Nat) (w:World) (hp:Pp f 0 ts e) (hb:X9 Sm ps ts) (hpre:UP nb base vh vb n hs bh F ad cap ps w) (hn:n+mo*e.sz<=96) (hmo:∀p∈ps,0<=p.mo/\p.mo<=9) (hm9:mo<=9) (hl9:le<=9):
  Calls Try.prog 128 #[.pointer (some ⟨nb,0,none⟩),.slice ad ps.length cap,.int .i64 le,.int .i64 mo] w (WC nb base vh vb n hs bh F (Rx.rowOf (Rx.copies e le mo)) w):=by
 have hz:=Xc;have hnw:=hpre.net.c.lt;obtain⟨A,hA⟩:=nam w.heap.size;obtain⟨W1,hW1⟩:=nam (w.alloc (.cells (bl (fun _=>false) 193).toArray 178));have T1:=TC.boxed w (bl (fun _=>false) 193) 178;have x1:=box_bel w (.cells (bl (fun _=>false) 193).toArray 178);rw[<-hW1]at T1 x1;rw[<-hA]at T1;have HA:=hyd hA;have HW1:=hyd hW1;have HP:=hyd hP;have Hp:=hyd hp;have Hb:=hyd hb;have Hpre:=hyd hpre;have Hmo:=hyd hmo;have Hx1:=hyd2 x1 T1;have Hn:=hyd hn;clear hP hp hb hpre hmo hA hW1 T1 x1 hn;go_enter Try.func128,Try.ntmps128;go_wp2_with fail;rw[<-HW1.out];refine Calls.mono (UX W1) ?_;rintro en w1 ⟨rfl,hB1⟩;obtain⟨b1,b2,b3⟩:=VZ w1 Ug;have ht0:(w1.alloc (.cells (bl (fun _=>false) 193).toArray 178)).there w1.heap.size 0 193:=Yn (TC.boxed w1 _ _);obtain⟨B,hB⟩:=nam w1.heap.size;obtain⟨L0,hL0⟩:=nam (bl Ug 193);obtain⟨W2,hW2⟩:=nam ((w1.alloc (.cells (bl (fun _=>false) 193).toArray 178)).setCells w1.heap.size 0 (bl Ug 193));rw[<-hW2]at b1 b2 b3;rw[<-hL0]at hW2 ⊢;have HL0:Hid (L0.length=193):=by show _=_;rw[hL0];exact Y7 _ _
 have HO0:Hid (L0.toArray.all (·.oneCell')=true):=by show _=true;rw[hL0];exact YK _ _
 have HW2:=hyd hW2;obtain⟨y1,y2⟩:=Hx1.out;have hsA:=HA.out;have hzw:=hB1.size;have hW1s:W1.heap.size=A+1:=by rw[HW1.out,HA.out];simp
 have C:RC nb base w A B:=⟨by omega,by omega,hsA,Hpre.out.lnb,Hpre.out.bw⟩;have S0:RW nb base vh vb vh vb n hs bh F (Rx.rowOf (Rx.copies e le 0)) w W2 A B:=by
  have P:=Hpre.out;have hN:=((P.net.below y1).below hB1).below b2;have h1:=P.net.h.blk;have h2:=P.net.b.blk;refine⟨M6 hN,((NF.of vh vb (by omega) y1).trans (NF.of vh vb (by omega) hB1)).trans (NF.of vh vb (by omega) b2),(y2.block (hB1.block _ y2.ltB)).block (b2.block A (by omega)),?_,fun k hk=>Or.inl (by have:=(h1 k hk).2;omega),fun k hk=>Or.inl (by have:=(h2 k hk).2;omega)⟩;rw[<-hB]at b1;show TC B (bl (YZ Rx.eps n) 193) W2;rw[YO (g:=Ug) (fun i hi=>Tl n i hi)];exact b1
 have HC:=hyd C;have HB:=hyd hB;have hmo':(mo:Int)<=9:=by omega
 clear b1 b2 b3 hB hL0 hW2 y1 y2 hsA hzw hW1s C HW1 hB1;go_wp2_with (first|(with_reducible refine gst 178 ?_;refine wpList_store_mid rfl 178 _ _ rfl w1.heap.size 0 L0.toArray rfl rfl (by simpa[HL0.out]using ht0) (by simpa[HL0.out]using Y2) HO0.out ?_;rw[List.toList_toArray,<-HW2.out]));rw[<-HB.out,<-HA.out];clear HL0 HO0 HW2 ht0
 go_loopw [10] (fun x w'=>∃(i:Nat) (vh' vb':Value),x=.int .i64 i/\i<=mo/\RW nb base vh vb vh' vb' n hs bh F (Rx.rowOf (Rx.copies e le i)) w w' A B) (fun x _=>mo-(intOf x).toNat)
 case atStart=>exact⟨0,vh,vb,rfl,by omega,S0⟩
 case round=>
  clear S0;obtain⟨i,vh',vb',rfl,hi,S⟩:=hrel;by_cases hlt:i<mo
  ·have hlt':(i:Int)<mo:=by omega
   obtain⟨E,hE⟩:=nam (Rx.rowOf (Rx.copies e le i));rw[<-hE]at S;have hEs:E.sz=i*e.sz:=by rw[hE];exact Rx.copies_sz e le i
   have hmul:(i+1)*e.sz<=mo*e.sz:=Nat.mul_le_mul_right _ hlt;rw[Nat.add_mul,Nat.one_mul,<-hEs]at hmul;have hn96:n+E.sz+e.sz<=96:=by have:=Hn.out;omega
   have HE:Hid (Rx.rowOf (Rx.copies e le (i+1))=.cat E (if i<le then e else .opt e)):=by show _=_;rw[Rx.copies_succ,Rx.rowOf_snoc,<-hE]
   clear hE hEs hmul;have P:=Hpre.out;have hpre2:UP nb base vh' vb' (n+E.sz) (Vq hs E n) (Vd bh E n) F ad cap ps wr:=⟨S.net,P.lnb,by have:=S.nf.b.size;have:=P.bw;omega,P.prt.nf P.sep S.nf,P.len,P.lcap,P.sep.nf S.nf⟩;have HC1:=HP.out ts e ps ad cap nb base vh' vb' (n+E.sz) (Vq hs E n) (Vd bh E n) F wr Hp.out Hb.out hpre2 hn96 Hmo.out;have HCp:Hid (Calls Try.prog 118 #[.pointer (some ⟨nb,0,none⟩),.slice ad ps.length cap] wr (WC nb base vh' vb' (n+E.sz) (Vq hs E n) (Vd bh E n) F e wr)):=HC1;clear HC1 hpre2 P;go_wp2_with fail;refine HCp.out.mono ?_;rintro en w3 ⟨vh2,vb2,rfl,N3,F3⟩;obtain⟨TA,TB,NFw,o1,o2⟩:=S.call HC.out F3;obtain⟨b1,b2,b3⟩:=VZ w3 (YZ e (n+E.sz));have ht3:(w3.alloc (.cells (bl (fun _=>false) 193).toArray 178)).there w3.heap.size 0 193:=Yn (TC.boxed w3 _ _);obtain⟨L3,hL3⟩:=nam (bl (YZ e (n+E.sz)) 193);obtain⟨W4,hW4⟩:=nam ((w3.alloc (.cells (bl (fun _=>false) 193).toArray 178)).setCells w3.heap.size 0 (bl (YZ e (n+E.sz)) 193));rw[<-hW4]at b1 b2 b3;rw[<-hL3]at hW4 ⊢;have HL3:Hid (L3.length=193):=by show _=_;rw[hL3];exact Y7 _ _
   have HO3:Hid (L3.toArray.all (·.oneCell')=true):=by show _=true;rw[hL3];exact YK _ _
   have HW4:=hyd hW4;have hnb3:=N3.c.lt;have UA:=TA.block (b2.block A TA.ltB);have UB:=TB.block (b2.block B TB.ltB);have hB3:=TB.ltB;have N4:=N3.below b2;have F4:=NFw.trans (NF.of vh2 vb2 (by omega) b2);have hw3:=NFw.b.size;have hb1:=N3.h.blk;have hb2:=N3.b.blk;have hA2:=HC.out.g2;obtain⟨c1,c1f⟩:=b1 0 _ (YN _ (by omega));clear hL3 hW4 TA TB N3 NFw S F3;have hg5:∀u,Below w3.heap.size w3 W4->W4.grownBy (W4.setCell ⟨w3.heap.size,0,none⟩ u) (some w3.heap.size):=fun u _=>Y4 w3.heap.size [u] 0 W4
   by_cases hle:i<le
   ·have hle':¬((le:Int)<=i):=by omega
    rw[if_pos hle]at HE;have HCj:=hyd (Ub nb base vh2 vb2 (n+E.sz+e.sz) _ _ F (YZ E n) (YZ e (n+E.sz)) W4 N4 HC.out.g7 hn96);have HS4:=hyd3 UA UB F4;have rB:=UB.range;have rC:=b1.range;have Ho:=hyd2 o1 o2;clear UA UB N4 F4 b1 b2 b3 hB3 hw3 hb1 hb2 hA2 hg5 o1 o2 hnb3 c1 c1f;go_wp2_with (first|(with_reducible refine gst 178 ?_;refine wpList_store_mid rfl 178 _ _ rfl w3.heap.size 0 L3.toArray rfl rfl (by simpa[HL3.out]using ht3) (by simpa[HL3.out]using Y2) HO3.out ?_;rw[List.toList_toArray,<-HW4.out])|(with_reducible refine gld 178 ?_;refine wpList_load_mid rfl 178 _ rfl B 0 rfl (bl (YZ E n) 193) _ rB Try.underlying178 rfl (by rw[Y7];exact Y2) ?_)|(with_reducible refine gld 178 ?_;refine wpList_load_mid rfl 178 _ rfl w3.heap.size 0 rfl (bl (YZ e (n+E.sz)) 193) _ rC Try.underlying178 rfl (by rw[Y7];exact Y2) ?_));refine HCj.out.mono ?_;rintro en w6 ⟨rfl,N6,F6⟩;obtain⟨h4a,h4b,h4f⟩:=HS4.out;obtain⟨tB,R⟩:=RW.step (e2:=e) HC.out h4a h4b h4f Ho.out.1 Ho.out.2 N6 F6 hn96;rw[<-HE.out]at R;obtain⟨L6,hL6⟩:=nam (bl (jn (YZ E n) (YZ e (n+E.sz))) 193);rw[<-hL6]at R ⊢;have HL6:Hid (L6.length=193):=by show _=_;rw[hL6];exact Y7 _ _
    have HO6:Hid (L6.toArray.all (·.oneCell')=true):=by show _=true;rw[hL6];exact YK _ _
    clear hL6 N6 F6 h4a h4b h4f rB rC;go_wp2_with (first|(with_reducible refine gst 178 ?_;refine wpList_store_mid rfl 178 _ _ rfl B 0 L6.toArray rfl rfl (by simpa[HL6.out]using tB) (by simpa[HL6.out]using Y2) HO6.out ?_;rw[List.toList_toArray]));go_roundw
    case rel=>exact⟨i+1,vh2,vb2,by go_num,by omega,R⟩
    case measure=>simp[intOf];omega
   ·have hle':(le:Int)<=i:=by omega
    rw[if_neg hle]at HE;have b5:=b1.set 0 (by rw[Y7];omega) (.bool true);rw[Vm,YO (g:=YZ (.opt e) (n+E.sz)) (fun j _=>by
     unfold YZ;by_cases h0:j=0
     ·simp[h0,Rx.nul]
     ·simp[h0,Rx.fst,Rx.lst])]at b5
    have g5:=hg5 (.bool true) b2;obtain⟨W5,hW5⟩:=nam (W4.setCell ⟨w3.heap.size,0,none⟩ (.bool true));rw[<-hW5]at b5 g5;have HW5:=hyd hW5;have VA:=UA.block (g5.block A UA.ltB (fun x=>by have:=Option.some.inj x;omega));have VB:=UB.block (g5.block B UB.ltB (fun x=>by have:=Option.some.inj x;omega));have N5:=N4.mine g5 (by omega) (fun x=>by have:=(hb1 _ x).2;omega) (fun x=>by have:=(hb2 _ x).2;omega);have F5:=F4.mine g5 (by omega) (by omega);clear hW5 g5;have HCj:=hyd (Ub nb base vh2 vb2 (n+E.sz+e.sz) _ _ F (YZ E n) (YZ (.opt e) (n+E.sz)) W5 N5 HC.out.g7 hn96);have HS4:=hyd3 VA VB F5;have rB:=VB.range;have rC:=b5.range;have Ho:=hyd2 o1 o2;clear UA UB N4 F4 VA VB N5 F5 b1 b2 b3 b5 hB3 hw3 hb1 hb2 hA2 hg5 o1 o2 hnb3;go_wp2_with (first|(with_reducible refine gst 178 ?_;refine wpList_store_mid rfl 178 _ _ rfl w3.heap.size 0 L3.toArray rfl rfl (by simpa[HL3.out]using ht3) (by simpa[HL3.out]using Y2) HO3.out ?_;rw[List.toList_toArray,<-HW4.out])|(with_reducible refine gld 178 ?_;rw[<-HW5.out];refine wpList_load_mid rfl 178 _ rfl B 0 rfl (bl (YZ E n) 193) _ rB Try.underlying178 rfl (by rw[Y7];exact Y2) ?_)|(with_reducible refine gld 178 ?_;refine wpList_load_mid rfl 178 _ rfl w3.heap.size 0 rfl (bl (YZ (.opt e) (n+E.sz)) 193) _ rC Try.underlying178 rfl (by rw[Y7];exact Y2) ?_));refine HCj.out.mono ?_;rintro en w6 ⟨rfl,N6,F6⟩;obtain⟨h4a,h4b,h4f⟩:=HS4.out;obtain⟨tB,R⟩:=RW.step (e2:=.opt e) HC.out h4a h4b h4f Ho.out.1 Ho.out.2 N6 F6 hn96;rw[<-HE.out]at R;obtain⟨L6,hL6⟩:=nam (bl (jn (YZ E n) (YZ (.opt e) (n+E.sz))) 193);rw[<-hL6]at R ⊢;have HL6:Hid (L6.length=193):=by show _=_;rw[hL6];exact Y7 _ _
    have HO6:Hid (L6.toArray.all (·.oneCell')=true):=by show _=true;rw[hL6];exact YK _ _
    clear hL6 N6 F6 h4a h4b h4f rB rC;go_wp2_with (first|(with_reducible refine gst 178 ?_;refine wpList_store_mid rfl 178 _ _ rfl B 0 L6.toArray rfl rfl (by simpa[HL6.out]using tB) (by simpa[HL6.out]using Y2) HO6.out ?_;rw[List.toList_toArray]));go_roundw
    case rel=>exact⟨i+1,vh2,vb2,by go_num,by omega,R⟩
    case measure=>simp[intOf];omega
  ·have hge:¬(i:Int)<mo:=by omega
   have him:i=mo:=by omega
   subst him;have hrB:=S.b.range;have tA:=Yn S.a;obtain⟨M,hM⟩:=nam (bl (YZ (Rx.rowOf (Rx.copies e le i)) n) 193);rw[<-hM]at hrB;have hMl:M.length=193:=by rw[hM];exact Y7 _ _
   have hGr:=Y4 A M 0 wr;have hfin:=RE S.a (YZ (Rx.rowOf (Rx.copies e le i)) n);rw[<-hM]at hfin;have a1:=HC.out.g1;have a2:=HC.out.g2;have a4:=HC.out.g4;have NX:=S.net.mine hGr (by omega) (fun x=>by have:=S.o1 A x;omega) (fun x=>by have:=S.o2 A x;omega);have FX:=S.nf.mine hGr (by omega) (by omega);obtain⟨WX,hWX⟩:=nam (wr.setCells A 0 M);rw[<-hWX]at hfin NX FX;have HWX:=hyd hWX;have Hfin:=hyd hfin;have HMl:=hyd hMl;have HOM:Hid (M.toArray.all (·.oneCell')=true):=by show _=true;rw[hM];exact YK _ _
   have HM:=hyd hM;clear hM hMl hGr hfin hWX a1 a2 a4 S;go_wp2_with (first|(with_reducible refine gld 178 ?_;refine wpList_load_mid rfl 178 _ rfl B 0 rfl M _ hrB Try.underlying178 rfl (by rw[HMl.out];exact Y2) ?_)|(with_reducible refine gst 178 ?_;refine wpList_store_mid rfl 178 _ _ rfl A 0 M.toArray rfl rfl (by simpa[HMl.out]using tA) (by simpa[HMl.out]using Y2) HOM.out ?_;rw[List.toList_toArray,<-HWX.out]));refine bodyPost_ret (v:=.agg M.toArray) (res_load1 Try.results128 rfl Hfin.out) rfl ?_;exact⟨vh',vb',by rw[HM.out],NX,FX⟩
end Go.Proofs.Ytoaaklhpmhjhkab
