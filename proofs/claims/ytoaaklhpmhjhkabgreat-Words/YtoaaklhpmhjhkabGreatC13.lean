import Derived.Test.YtoaaklhpmhjhkabGreatC12
set_option maxRecDepth 100000
set_option maxHeartbeats 4000000
set_option linter.all false
namespace Go.Proofs.YtoaaklhpmhjhkabGreat
open Go.RowKit
open Bm
structure Wg (p:Prop):Prop where
 out:p
variable {a:Act}{o:Oper}{w:World}
theorem UT (x:Operand) (ho:o.op=.buildSlice 56 1 #[(0,x)]) (f:Nat->Bool) (hx:a.eval x=.agg (bl f 256).toArray):
  (execOp a.eval o).run Tryz.prog w=.ok (.value (.slice (some ⟨w.heap.size,0,none⟩) 1 1)) (w.alloc (.cells (bl f 256).toArray 146)):=by
 unfold execOp;have hq:=O9 f w;have e:(#[((0:Nat),x)].map fun(p:Nat × Operand)=>(p.1,a.eval p.2))=#[(0,.agg (bl f 256).toArray)]:=by simp[hx]
 simp only[ho,Sem.run_bind,e,hq,Result.andThen_ok,Sem.run_pure]
def GI (n:Nat):Nat->Bool:=fun i=>i==1+n || i==97+n
structure PC (base:Nat) (vh vb:Value) (nb n:Nat) (hs bh:Nat->Nat->Bool) (m:Nat) (F f c:Nat->Bool) (w W:World):Prop where
 ct:TC nb (vh::vb::bl F 104) W
 oh:Xp base vh (Wh n hs) W
 ob:Ya base vb (Wh m bh) W
 ne:∀k,vh.ownBlock=some k->vb.ownBlock≠some k
 st:TC w.heap.size (bl f 256) W
 zt:TC (w.heap.size+1) (bl (fun _=>false) 193) W
 ot:TC (w.heap.size+2) (bl c 193) W
 bw:Below nb w W
 nh:∀k,vh.ownBlock=some k->k<w.heap.size\/w.heap.size+3<=k
 nv:∀k,vb.ownBlock=some k->k<w.heap.size\/w.heap.size+3<=k
theorem KR (nb base:Nat) (vh vb:Value) (n:Nat) (hs bh:Nat->Nat->Bool) (F f:Nat->Bool) (w:World) (hN:YH nb base vh vb n hs bh F w) (hnb:nb<base) (hbw:base<=w.heap.size) (hn:n<96):
  Calls Tryz.prog 103 #[.pointer (some ⟨nb,0,none⟩),.agg (bl f 256).toArray] w fun e w'=>∃vh' vb',e=.returned (.agg (bl (GI n) 193).toArray)/\YH nb base vh' vb' (n+1) (fun p=>if p=n then f else hs p) (fun p=>if p=n then (fun _=>false) else bh p) F w'/\NF nb vh vb vh' vb' w w':=by
 have hz:=Xh;have hnw:=hN.c.lt;have HN:=hyd hN;obtain⟨W1,hW1⟩:=nam (w.alloc (.cells (bl f 256).toArray 146));obtain⟨W2,hW2⟩:=nam (W1.alloc (.cells (bl (fun _=>false) 193).toArray 142));obtain⟨W3,hW3⟩:=nam (W2.alloc (.cells (bl (fun _=>false) 193).toArray 142));have z1:W1.heap.size=w.heap.size+1:=by rw[hW1];simp
 have z2:W2.heap.size=w.heap.size+2:=by rw[hW2];simp[z1]
 have z3:W3.heap.size=w.heap.size+3:=by rw[hW3];simp[z2]
 have S0:TC w.heap.size (bl f 256) W3/\TC (w.heap.size+1) (bl (fun _=>false) 193) W3/\TC (w.heap.size+2) (bl (fun _=>false) 193) W3/\Below w.heap.size w W3:=by
  have T1:=TC.boxed w (bl f 256) 146;have T2:=TC.boxed W1 (bl (fun _=>false) 193) 142;have T3:=TC.boxed W2 (bl (fun _=>false) 193) 142;have x1:=box_bel w (.cells (bl f 256).toArray 146);have x2:=box_bel W1 (.cells (bl (fun _=>false) 193).toArray 142);have x3:=box_bel W2 (.cells (bl (fun _=>false) 193).toArray 142);rw[<-hW1]at T1 x1;rw[<-hW2,z1]at T2 x2;rw[<-hW3,z2]at T3 x3;exact⟨(T1.block (x2.block _ (by omega))).block (x3.block _ (by omega)),T2.block (x3.block _ (by omega)),T3,(x1.trans (x2.mono (by omega))).trans (x3.mono (by omega))⟩
 obtain⟨s1,s2,s3,B3⟩:=S0;have N3:=hN.below B3;obtain⟨ad,cap,eh,_⟩:=hN.h.at_;rw[X4]at eh;have Heh:=hyd eh;have c0:W3.cell? ⟨nb,0,none⟩=some (.slice ad n cap):=by rw[<-eh];exact(N3.c 0 _ rfl).1
 have c0f:W3.frozen? ⟨nb,0,none⟩=false:=(N3.c 0 _ rfl).2;have hrs:=s1.range;have HW:Hid (W3=((w.alloc (.cells (bl f 256).toArray 146)).alloc (.cells (bl (fun _=>false) 193).toArray 142)).alloc (.cells (bl (fun _=>false) 193).toArray 142)):=by show _=_;rw[hW3,hW2,hW1]
 have Hz3:=hyd z3;have HS0:=hyd5 s2 s3 s1 B3 N3;have hge:¬(96:Int)<=n:=by omega
 rw[HW.out]at c0;clear hN hW1 hW2 hW3 z1 z2 z3 s1 s2 s3 B3 N3 eh;go_enter Tryz.func103,Tryz.ntmps103;go_wp2_with fail;rw[<-HW.out];rw[<-HW.out]at c0;clear HW;refine wp_region_any (by kernel_rfl) ?_;change wpAny _ _ _ _ 11 _ _ W3.drew;refine wpAny_take (i:=0) (oi:=?o0) (v:=?v0) ?hi0 ?hs0 ?hf0 ?hr0 ?hQ0 (Or.inl ⟨?hw0,?hy0⟩) ?rest0
 case hi0=>simp only[List.getElem?_toArray,List.getElem?_cons_zero];rfl
 case hs0=>kernel_rfl
 case hf0=>kernel_rfl
 case hr0=>kernel_rfl
 case hQ0=>exact fun _ _ _ h=>h
 case hw0=>rfl
 case hy0=>intro w';go_simp;first|done|with_reducible rfl
 (try simp only[psm])
 refine wpAny_take (i:=1) (oi:=?o1) (v:=?v1) ?hi1 ?hs1 ?hf1 ?hr1 ?hQ1 (Or.inl ⟨?hw1,?hy1⟩) ?rest1
 case hi1=>simp only[gel];rfl
 case hs1=>kernel_rfl
 case hf1=>kernel_rfl
 case hr1=>kernel_rfl
 case hQ1=>exact fun _ _ _ h=>h
 case hw1=>rfl
 case hy1=>intro w';go_simp;first|done|with_reducible rfl
 (try simp only[psm])
 refine wpAny_take (i:=2) (oi:=?o2) (v:=?v2) ?hi2 ?hs2 ?hf2 ?hr2 ?hQ2 (Or.inl ⟨?hw2,?hy2⟩) ?rest2
 case hi2=>simp only[gel];rfl
 case hs2=>kernel_rfl
 case hf2=>kernel_rfl
 case hr2=>kernel_rfl
 case hQ2=>exact fun _ _ _ h=>h
 case hw2=>rfl
 case hy2=>intro w';go_simp;first|done|with_reducible rfl
 (try simp only[psm])
 refine wpAny_take (i:=3) (oi:=?o3) (v:=?v3) ?hi3 ?hs3 ?hf3 ?hr3 ?hQ3 (Or.inl ⟨?hw3,?hy3⟩) ?rest3
 case hi3=>simp only[gel];rfl
 case hs3=>kernel_rfl
 case hf3=>kernel_rfl
 case hr3=>kernel_rfl
 case hQ3=>exact fun _ _ _ h=>h
 case hw3=>rfl
 case hy3=>intro w';go_simp;first|done|with_reducible rfl
 (try simp only[psm])
 obtain⟨W4,hW4⟩:=nam (W3.drew.alloc (.cells (bl f 256).toArray 146));have hnew:W4.rangeAt W3.drew.heap.size 0 (bl f 256):=by rw[hW4];exact(TC.boxed W3.drew (bl f 256) 146).range
 have x4:Below W3.heap.size W3 W4:=by rw[hW4];exact(Below.refl W3.heap.size W3).drew.trans (show Below W3.heap.size W3.drew _ from box_bel W3.drew _)
 have q4:=c0;have q4':W4.cell? ⟨nb,0,none⟩=some (.slice ad n cap):=by rw[<-Heh.out];exact((HS0.out.2.2.2.2.below x4).c 0 _ rfl).1
 refine Ux (fuel:=4) 4 5 6 (o4:=?o4) (o5:=?o5) (o6:=?o6) (v4:=.slice ad n cap) (v5:=.agg (bl f 256).toArray) (v6:=.slice (some ⟨W3.drew.heap.size,0,none⟩) 1 1) (L:=#[true,true,true,true,true,true,true,false,false,false,false]) (A:=?A) (w':=W4)
  ?h4 ?h5 ?h6 ?g4 ?g5 ?g6 ?r0 ?r1 ?r2 ?r3 ?r4 ?r5 ?x4 ?y4 ?z4 ?x5 ?y5 ?x6 ?y6 ?z6 ?l1 ?l2 ?l3 ?f1 ?f2 ?f3 ?fin
 case h4=>simp only[gel];rfl
 case h5=>simp only[gel];rfl
 case h6=>simp only[gel];rfl
 case g4=>rfl
 case g5=>rfl
 case g6=>rfl
 case r0=>kernel_rfl
 case r1=>kernel_rfl
 case r2=>kernel_rfl
 case r3=>kernel_rfl
 case r4=>kernel_rfl
 case r5=>kernel_rfl
 case x4=>go_simp
 case y4=>simp only[psm];go_simp
 case z4=>clear hW4;simp only[psm];go_simp
 case x5=>exact X7 146 _ rfl w.heap.size 0 rfl (bl f 256) _ (fun j v hv=>hrs j v hv) u_d rfl (by rw[Y7];exact Ss)
 case y5=>exact X7 146 _ rfl w.heap.size 0 rfl (bl f 256) _ (fun j v hv=>hrs j v hv) u_d rfl (by rw[Y7];exact Ss)
 case x6=>rw[hW4];exact UT _ rfl f rfl
 case y6=>rw[hW4];exact UT _ rfl f rfl
 case z6=>rw[hW4];exact UT _ rfl f rfl
 case l1=>kernel_rfl
 case l2=>kernel_rfl
 case l3=>kernel_rfl
 case f1=>simp only[psm];rfl
 case f2=>simp only[psm]
 case f3=>simp only[psm]
 refine Xg 7 rfl (by kernel_rfl) ?_;simp only[List.drop_succ_cons,List.drop_zero];obtain⟨D,hD⟩:=nam W3.drew.heap.size;rw[<-hD]at hnew ⊢;have HD:Hid (D=w.heap.size+3):=by show _=_;rw[hD];exact Hz3.out
 obtain⟨g2,g3,g1,gB,gN⟩:=HS0.out;have P4:PC base vh vb nb n hs bh n F f (fun _=>false) w W4:=by
  have N4:=gN.below x4;have hb1:=HN.out.h.blk;have hb2:=HN.out.b.blk;exact⟨N4.c,N4.h,N4.b,N4.ne,g1.block (x4.block _ g1.ltB),g2.block (x4.block _ g2.ltB),g3.block (x4.block _ g3.ltB),(gB.mono (by omega)).trans (x4.mono (by have:=gB.size;omega)),fun k hk=>Or.inl (hb1 k hk).2,fun k hk=>Or.inl (hb2 k hk).2⟩
 have hbs:base<=W4.heap.size:=by have:=P4.bw.size;omega
 have hz4:W4.heap.size=w.heap.size+4:=by
  rw[hW4];have:=Hz3.out;show(W3.drew.alloc _).heap.size=_;simp[this]
 have Hz4:=hyd hz4;have HK4:Hid (∀k,k<w.heap.size->W4.heap[k]?=w.heap[k]?):=fun k hk=>by rw[x4.block k (by have:=Hz3.out;omega)];exact gB.block k hk
 have HP4:=hyd P4;have hO4:=P4.oh;clear c0 c0f hrs x4 q4 q4' hW4 hD g1 g2 g3 gB gN HS0 Hz3 P4 hz4;refine TW (by rfl) _ _ (by rfl) base vh (Wh n hs) (by rw[Heh.out];rfl) hO4 (by rw[X4];omega) D f (by rfl) hnew hbs _ rfl ?_;rw[X4];intro g cap2 w5 hO5 hgrow hgb5 hl5;have P4:=HP4.out;have hgb:g<w.heap.size\/w.heap.size+3<=g:=by
  rcases hgb5 with h|h
  ·exact P4.nh g h
  ·have:=Hz4.out;omega
 have hne5:vb.ownBlock≠some g:=by
  rcases hgb5 with h|h
  ·exact P4.ne g h
  ·intro e;have:=(P4.ob.blk g e).2;omega
 have hblk5:=(hO5.blk g rfl).1;have kb:∀k,k<W4.heap.size->vh.ownBlock≠some k->w5.heap[k]?=W4.heap[k]?:=fun k hk hne=>hgrow.block k hk (fun e=>hne e.symm)
 have hcell:=P4.ct.block (kb nb P4.ct.lt (fun e=>by have:=(P4.oh.blk nb e).1;omega));obtain⟨cx,cxf⟩:=hcell 0 _ rfl;have K5:=hcell.set 0 (by simp) (.slice (some ⟨g,0,none⟩) (n+1) cap2);obtain⟨W6,hW6⟩:=nam (w5.setCell ⟨nb,0,none⟩ (.slice (some ⟨g,0,none⟩) (n+1) cap2));rw[<-hW6]at K5;have hb6:∀k,k≠nb->W6.heap[k]?=w5.heap[k]?:=fun k hk=>by rw[hW6];exact Below.heap_setCell w5 ⟨nb,0,none⟩ _ k (fun e=>hk e)
 have hz5:=hgrow.size;have hzz:=Hz4.out;have hmk:Wh n hs++[f]=Wh (n+1) (fun p=>if p=n then f else hs p):=by
  rw[NH];congr 1
  ·exact List.map_congr_left (fun p hp=>by
     have:p<n:=by simpa using hp
     rw[if_neg (by omega)])
  ·simp
 rw[hmk]at hO5;have hnhA:∀k,w.heap.size<=k->k<w.heap.size+3->vh.ownBlock≠some k:=fun k h1 h2 e=>by have:=P4.nh k e;omega
 have P6:PC base (.slice (some ⟨g,0,none⟩) (n+1) cap2) vb nb (n+1) (fun p=>if p=n then f else hs p) bh n F f (fun _=>false) w W6:=by
  have B5:Below nb w w5:=P4.bw.grown hgrow (by have:=P4.bw.size;omega) (fun q hq=>by have:=(P4.oh.blk q hq).1;omega);refine⟨K5,hO5.keep (fun k hk=>hb6 k (by cases hk;show g≠nb;omega)),(P4.ob.keep (fun k hk=>kb k (P4.ob.blk k hk).2 (fun e=>P4.ne k e hk))).keep (fun k hk=>hb6 k (fun e=>by have:=(P4.ob.blk k hk).1;omega)),fun k hk=>by cases hk;exact hne5,?_,?_,?_,?_,fun k hk=>by cases hk;exact hgb,P4.nv⟩
  ·exact(P4.st.block (kb _ (by omega) (hnhA _ (by omega) (by omega)))).block (hb6 _ (by omega))
  ·exact(P4.zt.block (kb _ (by omega) (hnhA _ (by omega) (by omega)))).block (hb6 _ (by omega))
  ·exact(P4.ot.block (kb _ (by omega) (hnhA _ (by omega) (by omega)))).block (hb6 _ (by omega))
  ·rw[hW6];exact B5.setCell (p:=⟨nb,0,none⟩) (Nat.le_refl _) _
 have HK6:Hid (∀k,k<w.heap.size->k≠nb->vh.ownBlock≠some k->W6.heap[k]?=w.heap[k]?):=fun k h1 h2 h3=>by
  rw[hb6 k h2,kb k (by omega) h3];exact HK4.out k h1
 have HG:Hid (vh.ownBlock=some g\/w.heap.size<=g):=by
  rcases hgb5 with h|h
  ·exact Or.inl h
  ·exact Or.inr (by omega)
 have HP6:=hyd P6;have HW6:=hyd hW6;obtain⟨bad,bcap,eb,_⟩:=P6.ob.at_;rw[X4]at eb;have Heb:=hyd eb;have d1:W6.cell? ⟨nb,1,none⟩=some (.slice bad n bcap):=by rw[<-eb];exact(P6.ct 1 _ rfl).1
 have e1:w5.cell? ⟨nb,1,none⟩=some (.slice bad n bcap):=by rw[<-eb];exact(hcell 1 _ rfl).1
 have hz6:W6.heap.size=w5.heap.size:=by rw[hW6];simp[World.setCell]
 obtain⟨W7,hW7⟩:=nam (W6.alloc (.cells (bl (fun _=>false) 104).toArray 62));have x7:Below W6.heap.size W6 W7:=by rw[hW7];exact box_bel _ _
 have hnew7:W7.rangeAt W6.heap.size 0 (bl (fun _=>false) 104):=by rw[hW7];exact(TC.boxed W6 _ _).range
 have hO7:=P6.ob.below x7;have hbs7:base<=W7.heap.size:=by have:=x7.size;omega
 have HW7:=hyd hW7;have Hx7:=hyd x7;have Hzz:Hid (w.heap.size+4<=W6.heap.size/\w.heap.size+4=W4.heap.size):=⟨by omega,by omega⟩;have Hblk5:Hid (base<=g/\g<W6.heap.size):=⟨hblk5,by omega⟩;clear P4 hgb hgb5 hblk5 kb hcell K5 hb6 hz5 hzz hmk hnhA P6 eb hW6 hW7 x7 hO4 hne5 hnew hbs hz6;clear hO5 hgrow;go_wp2_with (first|(with_reducible show wpList _ _ _ (⟨_,Op.build 62 _,_,_,_,_⟩::_) _ _;rw[<-HW6.out];refine WS rfl rfl ?_;refine Wg.out ?_));refine⟨?_⟩
 (try simp only[psm])
 refine RN rfl _ rfl (fun _=>false) rfl ?_;rw[<-HW7.out]
 (try simp only[psm])
 refine Xw (by rfl) _ _ (by rfl) base vb (Wh n bh) (by rw[Heb.out];rfl) hO7 (by rw[X4];omega) W6.heap.size (fun _=>false) (by rfl) hnew7 hbs7 _ rfl ?_;rw[X4];intro gg cap3 w8 hO8 hgrow8 hgb8 hl8
 (try simp only[psm])
 have P6:=HP6.out;have hzz:=Hzz.out;have hx7:=Hx7.out;have hb5:=Hblk5.out;have kb:∀k,k<W6.heap.size->vb.ownBlock≠some k->w8.heap[k]?=W6.heap[k]?:=fun k hk hne=>by
  rw[hgrow8.block k (by have:=hx7.size;omega) (fun e=>hne e.symm)];exact hx7.block k hk
 have hz7:W7.heap.size=W6.heap.size+1:=by rw[HW7.out];simp
 have hgg:=(hO8.blk gg rfl).1;have hggA:gg<w.heap.size\/w.heap.size+3<=gg:=by
  rcases hgb8 with h|h
  ·exact P6.nv gg h
  ·omega
 have hcell:=P6.ct.block (kb nb P6.ct.lt (fun e=>by have:=(P6.ob.blk nb e).1;omega));obtain⟨cx,cxf⟩:=hcell 1 _ rfl;have K9:=hcell.set 1 (by simp) (.slice (some ⟨gg,0,none⟩) (n+1) cap3);have hnvA:∀k,w.heap.size<=k->k<w.heap.size+3->vb.ownBlock≠some k:=fun k h1 h2 e=>by have:=P6.nv k e;omega
 have T2:=P6.ot.block (kb _ (by omega) (hnvA _ (by omega) (by omega)));have T1:=P6.zt.block (kb _ (by omega) (hnvA _ (by omega) (by omega)));have hnb2:nb≠w.heap.size+2:=by omega
 obtain⟨u1,u1f⟩:=T2 (1+n) _ (YK _ (by omega));obtain⟨u2,u2f⟩:=T2 (97+n) _ (YK _ (by omega));obtain⟨W9,hW9⟩:=nam (w8.setCell ⟨nb,1,none⟩ (.slice (some ⟨gg,0,none⟩) (n+1) cap3));rw[<-hW9]at K9;have hb9:∀k,k≠nb->W9.heap[k]?=w8.heap[k]?:=fun k hk=>by rw[hW9];exact Below.heap_setCell w8 ⟨nb,1,none⟩ _ k (fun e=>hk e)
 have V2:=T2.block (hb9 (w.heap.size+2) (by omega));have V1:=T1.block (hb9 (w.heap.size+1) (by omega));have V2a:=V2.set (1+n) (by rw[Y7];omega) (.bool true);rw[UG]at V2a;have V2b:=V2a.set (97+n) (by rw[Y7];omega) (.bool true);rw[UG,YR (g:=GI n) (fun i _=>by
  unfold GI;by_cases e1:i=97+n
  ·simp[e1]
  ·by_cases e2:i=1+n
   ·simp[e2]
   ·simp[e1,e2])]at V2b
 obtain⟨W11,hW11⟩:∃W,W=(W9.setCell ⟨w.heap.size+2,1+n,none⟩ (.bool true)).setCell ⟨w.heap.size+2,97+n,none⟩ (.bool true):=⟨_,rfl⟩;rw[<-hW11]at V2b;have hb11:∀k,k≠w.heap.size+2->W11.heap[k]?=W9.heap[k]?:=fun k hk=>by
  rw[hW11,Below.heap_setCell _ ⟨w.heap.size+2,97+n,none⟩ _ k (fun e=>hk e),Below.heap_setCell _ ⟨w.heap.size+2,1+n,none⟩ _ k (fun e=>hk e)]
 have V1b:=V1.block (hb11 (w.heap.size+1) (by omega));obtain⟨M,hM⟩:∃M,M=bl (GI n) 193:=⟨_,rfl⟩;rw[<-hM]at V2b;have hMl:M.length=193:=by rw[hM];exact Y7 _ _
 have rM:=V2b.range;have tz:=Yq V1b;have hGr:=Y6 (w.heap.size+1) M 0 W11;have hr':=World.rangeAt_setCells_same W11 (w.heap.size+1) 0 M (by rw[hMl];exact tz);have hfin:=run_loadVar_mid (P:=Tryz.prog) (W11.setCells (w.heap.size+1) 0 M) (w.heap.size+1) 0 142 M _ hr' u_c rfl (by rw[hMl];exact Y3);obtain⟨WX,hWX⟩:∃W,W=W11.setCells (w.heap.size+1) 0 M:=⟨_,rfl⟩;rw[<-hWX]at hGr hfin;have hz8:=hgrow8.size;have hz9:W9.heap.size=w8.heap.size:=by rw[hW9];simp[World.setCell]
 have hz11:W11.heap.size=w8.heap.size:=by rw[hW11];simp[World.setCell,hz9]
 have kx:∀k,k<w8.heap.size->k≠w.heap.size+1->k≠w.heap.size+2->k≠nb->WX.heap[k]?=w8.heap[k]?:=fun k h0 h1 h2 h3=>by
  rw[hGr.block k (by omega) (fun e=>h1 (Option.some.inj e)),hb11 k h2,hb9 k h3]
 have hne8:∀k,(Value.slice (some ⟨g,0,none⟩) (n+1) cap2).ownBlock=some k->(Value.slice (some ⟨gg,0,none⟩) (n+1) cap3).ownBlock≠some k:=fun k hk e=>by
  cases hk;have e2:gg=g:=Option.some.inj e;rcases hgb8 with h|h
  ·rw[e2]at h;exact P6.ne g rfl h
  ·have:=hb5.2;omega
 have NX:YH nb base (.slice (some ⟨g,0,none⟩) (n+1) cap2) (.slice (some ⟨gg,0,none⟩) (n+1) cap3) (n+1) (fun p=>if p=n then f else hs p) (fun p=>if p=n then (fun _=>false) else bh p) F WX:=by
  have hmk:Wh n bh++[fun _=>false]=Wh (n+1) (fun p=>if p=n then (fun _=>false) else bh p):=by
   rw[NH];congr 1
   ·exact List.map_congr_left (fun p hp=>by
      have:p<n:=by simpa using hp
      rw[if_neg (by omega)])
   ·simp
  rw[hmk]at hO8;have hg6:=P6.nh g rfl;refine⟨(K9.block (hb11 nb hnb2)).block (hGr.block nb (by omega) (fun e=>by have:=Option.some.inj e;omega)),P6.oh.keep (fun k hk=>?_),hO8.keep (fun k hk=>?_),hne8⟩
  ·cases hk;rw[kx g (by omega) (by omega) (by omega) (by omega)];exact kb g hb5.2 (fun e=>P6.ne g rfl e)
  ·cases hk;exact kx gg (by have:=hl8;omega) (by omega) (by omega) (by omega)
 have FX:NF nb vh vb (.slice (some ⟨g,0,none⟩) (n+1) cap2) (.slice (some ⟨gg,0,none⟩) (n+1) cap3) w WX:=by
  have B6:=P6.bw;have B7:Below nb w W7:=B6.trans (hx7.mono (by omega));have B8:Below nb w w8:=B7.grown hgrow8 (by have:=B7.size;omega) (fun q hq=>by have:=(P6.ob.blk q hq).1;omega);have B9:Below nb w W9:=by rw[hW9];exact B8.setCell (p:=⟨nb,1,none⟩) (Nat.le_refl _) _
  have B11:Below nb w W11:=by
   rw[hW11];exact(B9.setCell (p:=⟨w.heap.size+2,1+n,none⟩) (by show nb<=w.heap.size+2;omega) _).setCell (p:=⟨w.heap.size+2,97+n,none⟩) (by show nb<=w.heap.size+2;omega) _
  refine⟨B11.grown hGr (by have:=B11.size;omega) (fun q hq=>by cases hq;omega),fun k h1 h2 h3 h4=>?_,fun k hk=>?_,fun k hk=>?_⟩
  ·rw[kx k (by omega) (by omega) (by omega) h2,kb k (by omega) h4];exact HK6.out k h1 h2 h3
  ·cases hk;exact HG.out
  ·cases hk;rcases hgb8 with h|h
   ·exact Or.inl h
   ·exact Or.inr (by show w.heap.size<=gg;omega)
 have HWX:=hyd hWX;have HW11:Hid (W11=((w8.setCell ⟨nb,1,none⟩ (.slice (some ⟨gg,0,none⟩) (n+1) cap3)).setCell ⟨w.heap.size+2,1+n,none⟩ (.bool true)).setCell ⟨w.heap.size+2,97+n,none⟩ (.bool true)):=by show _=_;rw[hW11,hW9]
 have Hfin:=hyd hfin;have HMl:=hyd hMl;have HOM:Hid (M.toArray.all (·.oneCell')=true):=by show _=true;rw[hM];exact YO _ _
 have HM:=hyd hM;clear P6 hzz hx7 hb5 kb hz7 hgg hggA hcell K9 hnvA T2 T1 hW9 hb9 V2 V1 V2a V2b hW11 hb11 V1b hM hMl hGr hr' hfin hWX hz8 hz9 hz11 kx hne8 hO8 hgrow8 hgb8 hl8 hnew7 hbs7 hO7 e1 d1;go_wp2_with (first|(with_reducible refine gld 142 ?_;rw[show w.heap.size+1+1=w.heap.size+2 from rfl,<-HW11.out];refine wpList_load_mid rfl 142 _ rfl (w.heap.size+2) 0 rfl M _ rM u_c rfl (by rw[HMl.out];exact Y3) ?_)|(with_reducible refine gst 142 ?_;refine wpList_store_mid rfl 142 _ _ rfl (w.heap.size+1) 0 M.toArray rfl rfl (by simpa[HMl.out]using tz) (by simpa[HMl.out]using Y3) HOM.out ?_;rw[List.toList_toArray,<-HWX.out]));refine bodyPost_ret (v:=.agg M.toArray) (res_load1 Tryz.results103 rfl Hfin.out) rfl ?_;exact⟨_,_,by rw[HM.out],NX,FX⟩
end Go.Proofs.YtoaaklhpmhjhkabGreat
