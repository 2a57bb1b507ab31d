import Derived.Test.YtoaaklhpmhjhkaaGreatC16
set_option maxRecDepth 100000
set_option maxHeartbeats 4000000
set_option linter.all false
namespace Go.Proofs.YtoaaklhpmhjhkaaGreat
open Go.RowKit
open Bm
structure Stop (p:Prop):Prop where
 out:p
variable {a : Act}{bs : List Nat}{N i j : Nat}{vd : Nat → Int}{t : Nat → Nat → Bool}{nx : Nat → Nat → Int}{o : Oper}{w : World}
theorem q2R (x:Operand) (ho:o.op=.buildSlice 129 1 #[(0,x)]) (f:Nat->Bool) (hx:a.eval x=.agg (bl f 256).toArray):
  (execOp a.eval o).run Tryz.prog w=.ok (.value (.slice (some ⟨w.heap.size,0,none⟩) 1 1)) (w.alloc (.cells (bl f 256).toArray 251)):=by
 unfold execOp;have hq:=q6V f w;have e:(#[((0:Nat),x)].map fun(p:Nat × Operand)=>(p.1,a.eval p.2))=#[(0,.agg (bl f 256).toArray)]:=by simp[hx]
 simp only[ho,Sem.run_bind,e,hq,Result.andThen_ok,Sem.run_pure]
def rnP (n:Nat):Nat->Bool:=fun i=>i==1+n || i==97+n
structure PC (base:Nat) (vh vb:Value) (nb n:Nat) (hs bh:Nat->Nat->Bool) (m:Nat) (F f c:Nat->Bool) (w W:World):Prop where
 ct:TC nb (vh::vb::bl F 104) W
 oh:OwnH base vh (mkL n hs) W
 ob:OwnS base vb (mkL m bh) W
 ne:∀k,vh.ownBlock=some k->vb.ownBlock≠some k
 st:TC w.heap.size (bl f 256) W
 zt:TC (w.heap.size+1) (bl (fun _=>false) 193) W
 ot:TC (w.heap.size+2) (bl c 193) W
 bw:Below nb w W
 nh:∀k,vh.ownBlock=some k->k<w.heap.size\/w.heap.size+3<=k
 nv:∀k,vb.ownBlock=some k->k<w.heap.size\/w.heap.size+3<=k
theorem y0k (nb base:Nat) (vh vb:Value) (n:Nat) (hs bh:Nat->Nat->Bool) (F f:Nat->Bool) (w:World) (hN:NetIn nb base vh vb n hs bh F w) (hnb:nb<base) (hbw:base<=w.heap.size) (hn:n<96):
  Calls Tryz.prog 219 #[.pointer (some ⟨nb,0,none⟩),.agg (bl f 256).toArray] w fun e w'=>∃vh' vb',e=.returned (.agg (bl (rnP n) 193).toArray)/\NetIn nb base vh' vb' (n+1) (fun p=>if p=n then f else hs p) (fun p=>if p=n then (fun _=>false) else bh p) F w'/\NF nb vh vb vh' vb' w w':=by
 have hz:=q1C;have hnw:=hN.c.lt;have HN:=hyd hN;obtain⟨W1,hW1⟩:=nam (w.alloc (.cells (bl f 256).toArray 251));obtain⟨W2,hW2⟩:=nam (W1.alloc (.cells (bl (fun _=>false) 193).toArray 247));obtain⟨W3,hW3⟩:=nam (W2.alloc (.cells (bl (fun _=>false) 193).toArray 247));have z1:W1.heap.size=w.heap.size+1:=by rw[hW1];simp
 have z2:W2.heap.size=w.heap.size+2:=by rw[hW2];simp[z1]
 have z3:W3.heap.size=w.heap.size+3:=by rw[hW3];simp[z2]
 have S0:TC w.heap.size (bl f 256) W3/\TC (w.heap.size+1) (bl (fun _=>false) 193) W3/\TC (w.heap.size+2) (bl (fun _=>false) 193) W3/\Below w.heap.size w W3:=by
  have T1:=TC.boxed w (bl f 256) 251;have T2:=TC.boxed W1 (bl (fun _=>false) 193) 247;have T3:=TC.boxed W2 (bl (fun _=>false) 193) 247;have x1:=box_bel w (.cells (bl f 256).toArray 251);have x2:=box_bel W1 (.cells (bl (fun _=>false) 193).toArray 247);have x3:=box_bel W2 (.cells (bl (fun _=>false) 193).toArray 247);rw[<-hW1]at T1 x1;rw[<-hW2,z1]at T2 x2;rw[<-hW3,z2]at T3 x3;exact⟨(T1.block (x2.block _ (by omega))).block (x3.block _ (by omega)),T2.block (x3.block _ (by omega)),T3,(x1.trans (x2.mono (by omega))).trans (x3.mono (by omega))⟩
 obtain⟨s1,s2,s3,B3⟩:=S0;have N3:=hN.below B3;obtain⟨ad,cap,eh,_⟩:=hN.h.at_;rw[q0V]at eh;have Heh:=hyd eh;have c0:W3.cell? ⟨nb,0,none⟩=some (.slice ad n cap):=by rw[<-eh];exact(N3.c 0 _ rfl).1
 have c0f:W3.frozen? ⟨nb,0,none⟩=false:=(N3.c 0 _ rfl).2;have hrs:=s1.range;have HW:Hid (W3=((w.alloc (.cells (bl f 256).toArray 251)).alloc (.cells (bl (fun _=>false) 193).toArray 247)).alloc (.cells (bl (fun _=>false) 193).toArray 247)):=by show _=_;rw[hW3,hW2,hW1]
 have Hz3:=hyd z3;have HS0:=hyd5 s2 s3 s1 B3 N3;have hge:¬(96:Int)<=n:=by omega
 rw[HW.out]at c0;clear hN hW1 hW2 hW3 z1 z2 z3 s1 s2 s3 B3 N3 eh;go_enter Tryz.func219,Tryz.ntmps219;go_wp2_with fail;rw[<-HW.out];rw[<-HW.out]at c0;clear HW;refine wp_region_any (by kernel_rfl) ?_;change wpAny _ _ _ _ 11 _ _ W3.drew;refine wpAny_take (i:=0) (oi:=?o0) (v:=?v0) ?hi0 ?hs0 ?hf0 ?hr0 ?hQ0 (Or.inl ⟨?hw0,?hy0⟩) ?rest0
 case hi0=>simp only[List.getElem?_toArray,List.getElem?_cons_zero];rfl
 case hs0=>kernel_rfl
 case hf0=>kernel_rfl
 case hr0=>kernel_rfl
 case hQ0=>exact fun _ _ _ h=>h
 case hw0=>rfl
 case hy0=>intro w';go_simp;first|done|with_reducible rfl
 (try simp only[psm])
 refine wpAny_take (i:=1) (oi:=?o1) (v:=?v1) ?hi1 ?hs1 ?hf1 ?hr1 ?hQ1 (Or.inl ⟨?hw1,?hy1⟩) ?rest1
 case hi1=>simp only[gel];rfl
 case hs1=>kernel_rfl
 case hf1=>kernel_rfl
 case hr1=>kernel_rfl
 case hQ1=>exact fun _ _ _ h=>h
 case hw1=>rfl
 case hy1=>intro w';go_simp;first|done|with_reducible rfl
 (try simp only[psm])
 refine wpAny_take (i:=2) (oi:=?o2) (v:=?v2) ?hi2 ?hs2 ?hf2 ?hr2 ?hQ2 (Or.inl ⟨?hw2,?hy2⟩) ?rest2
 case hi2=>simp only[gel];rfl
 case hs2=>kernel_rfl
 case hf2=>kernel_rfl
 case hr2=>kernel_rfl
 case hQ2=>exact fun _ _ _ h=>h
 case hw2=>rfl
 case hy2=>intro w';go_simp;first|done|with_reducible rfl
 (try simp only[psm])
 refine wpAny_take (i:=3) (oi:=?o3) (v:=?v3) ?hi3 ?hs3 ?hf3 ?hr3 ?hQ3 (Or.inl ⟨?hw3,?hy3⟩) ?rest3
 case hi3=>simp only[gel];rfl
 case hs3=>kernel_rfl
 case hf3=>kernel_rfl
 case hr3=>kernel_rfl
 case hQ3=>exact fun _ _ _ h=>h
 case hw3=>rfl
 case hy3=>intro w';go_simp;first|done|with_reducible rfl
 (try simp only[psm])
 obtain⟨W4,hW4⟩:=nam (W3.drew.alloc (.cells (bl f 256).toArray 251));have hnew:W4.rangeAt W3.drew.heap.size 0 (bl f 256):=by rw[hW4];exact(TC.boxed W3.drew (bl f 256) 251).range
 have x4:Below W3.heap.size W3 W4:=by rw[hW4];exact(Below.refl W3.heap.size W3).drew.trans (show Below W3.heap.size W3.drew _ from box_bel W3.drew _)
 have q4:=c0;have q4':W4.cell? ⟨nb,0,none⟩=some (.slice ad n cap):=by rw[<-Heh.out];exact((HS0.out.2.2.2.2.below x4).c 0 _ rfl).1
 refine q3d (fuel:=4) 4 5 6 (o4:=?o4) (o5:=?o5) (o6:=?o6) (v4:=.slice ad n cap) (v5:=.agg (bl f 256).toArray) (v6:=.slice (some ⟨W3.drew.heap.size,0,none⟩) 1 1) (L:=#[true,true,true,true,true,true,true,false,false,false,false]) (A:=?A) (w':=W4)
  ?h4 ?h5 ?h6 ?g4 ?g5 ?g6 ?r0 ?r1 ?r2 ?r3 ?r4 ?r5 ?x4 ?y4 ?z4 ?x5 ?y5 ?x6 ?y6 ?z6 ?l1 ?l2 ?l3 ?f1 ?f2 ?f3 ?fin
 case h4=>simp only[gel];rfl
 case h5=>simp only[gel];rfl
 case h6=>simp only[gel];rfl
 case g4=>rfl
 case g5=>rfl
 case g6=>rfl
 case r0=>kernel_rfl
 case r1=>kernel_rfl
 case r2=>kernel_rfl
 case r3=>kernel_rfl
 case r4=>kernel_rfl
 case r5=>kernel_rfl
 case x4=>go_simp
 case y4=>simp only[psm];go_simp
 case z4=>clear hW4;simp only[psm];go_simp
 case x5=>exact q0O 251 _ rfl w.heap.size 0 rfl (bl f 256) _ (fun j v hv=>hrs j v hv) Tryz.underlying251 rfl (by rw[q0c];exact q4M)
 case y5=>exact q0O 251 _ rfl w.heap.size 0 rfl (bl f 256) _ (fun j v hv=>hrs j v hv) Tryz.underlying251 rfl (by rw[q0c];exact q4M)
 case x6=>rw[hW4];exact q2R _ rfl f rfl
 case y6=>rw[hW4];exact q2R _ rfl f rfl
 case z6=>rw[hW4];exact q2R _ rfl f rfl
 case l1=>kernel_rfl
 case l2=>kernel_rfl
 case l3=>kernel_rfl
 case f1=>simp only[psm];rfl
 case f2=>simp only[psm]
 case f3=>simp only[psm]
 refine q1u 7 rfl (by kernel_rfl) ?_;simp only[List.drop_succ_cons,List.drop_zero];obtain⟨D,hD⟩:=nam W3.drew.heap.size;rw[<-hD]at hnew ⊢;have HD:Hid (D=w.heap.size+3):=by show _=_;rw[hD];exact Hz3.out
 obtain⟨g2,g3,g1,gB,gN⟩:=HS0.out;have P4:PC base vh vb nb n hs bh n F f (fun _=>false) w W4:=by
  have N4:=gN.below x4;have hb1:=HN.out.h.blk;have hb2:=HN.out.b.blk;exact⟨N4.c,N4.h,N4.b,N4.ne,g1.block (x4.block _ g1.ltB),g2.block (x4.block _ g2.ltB),g3.block (x4.block _ g3.ltB),(gB.mono (by omega)).trans (x4.mono (by have:=gB.size;omega)),fun k hk=>Or.inl (hb1 k hk).2,fun k hk=>Or.inl (hb2 k hk).2⟩
 have hbs:base<=W4.heap.size:=by have:=P4.bw.size;omega
 have hz4:W4.heap.size=w.heap.size+4:=by
  rw[hW4];have:=Hz3.out;show(W3.drew.alloc _).heap.size=_;simp[this]
 have Hz4:=hyd hz4;have HK4:Hid (∀k,k<w.heap.size->W4.heap[k]?=w.heap[k]?):=fun k hk=>by rw[x4.block k (by have:=Hz3.out;omega)];exact gB.block k hk
 have HP4:=hyd P4;have hO4:=P4.oh;clear c0 c0f hrs x4 q4 q4' hW4 hD g1 g2 g3 gB gN HS0 Hz3 P4 hz4;refine q3c (by rfl) _ _ (by rfl) base vh (mkL n hs) (by rw[Heh.out];rfl) hO4 (by rw[q0V];omega) D f (by rfl) hnew hbs _ rfl ?_;rw[q0V];intro g cap2 w5 hO5 hgrow hgb5 hl5;have P4:=HP4.out;have hgb:g<w.heap.size\/w.heap.size+3<=g:=by
  rcases hgb5 with h|h
  ·exact P4.nh g h
  ·have:=Hz4.out;omega
 have hne5:vb.ownBlock≠some g:=by
  rcases hgb5 with h|h
  ·exact P4.ne g h
  ·intro e;have:=(P4.ob.blk g e).2;omega
 have hblk5:=(hO5.blk g rfl).1;have kb:∀k,k<W4.heap.size->vh.ownBlock≠some k->w5.heap[k]?=W4.heap[k]?:=fun k hk hne=>hgrow.block k hk (fun e=>hne e.symm)
 have hcell:=P4.ct.block (kb nb P4.ct.lt (fun e=>by have:=(P4.oh.blk nb e).1;omega));obtain⟨cx,cxf⟩:=hcell 0 _ rfl;have K5:=hcell.set 0 (by simp) (.slice (some ⟨g,0,none⟩) (n+1) cap2);obtain⟨W6,hW6⟩:=nam (w5.setCell ⟨nb,0,none⟩ (.slice (some ⟨g,0,none⟩) (n+1) cap2));rw[<-hW6]at K5;have hb6:∀k,k≠nb->W6.heap[k]?=w5.heap[k]?:=fun k hk=>by rw[hW6];exact Below.heap_setCell w5 ⟨nb,0,none⟩ _ k (fun e=>hk e)
 have hz5:=hgrow.size;have hzz:=Hz4.out;have hmk:mkL n hs++[f]=mkL (n+1) (fun p=>if p=n then f else hs p):=by
  rw[q8J];congr 1
  ·exact List.map_congr_left (fun p hp=>by
     have:p<n:=by simpa using hp
     rw[if_neg (by omega)])
  ·simp
 rw[hmk]at hO5;have hnhA:∀k,w.heap.size<=k->k<w.heap.size+3->vh.ownBlock≠some k:=fun k h1 h2 e=>by have:=P4.nh k e;omega
 have P6:PC base (.slice (some ⟨g,0,none⟩) (n+1) cap2) vb nb (n+1) (fun p=>if p=n then f else hs p) bh n F f (fun _=>false) w W6:=by
  have B5:Below nb w w5:=P4.bw.grown hgrow (by have:=P4.bw.size;omega) (fun q hq=>by have:=(P4.oh.blk q hq).1;omega);refine⟨K5,hO5.keep (fun k hk=>hb6 k (by cases hk;show g≠nb;omega)),(P4.ob.keep (fun k hk=>kb k (P4.ob.blk k hk).2 (fun e=>P4.ne k e hk))).keep (fun k hk=>hb6 k (fun e=>by have:=(P4.ob.blk k hk).1;omega)),fun k hk=>by cases hk;exact hne5,?_,?_,?_,?_,fun k hk=>by cases hk;exact hgb,P4.nv⟩
  ·exact(P4.st.block (kb _ (by omega) (hnhA _ (by omega) (by omega)))).block (hb6 _ (by omega))
  ·exact(P4.zt.block (kb _ (by omega) (hnhA _ (by omega) (by omega)))).block (hb6 _ (by omega))
  ·exact(P4.ot.block (kb _ (by omega) (hnhA _ (by omega) (by omega)))).block (hb6 _ (by omega))
  ·rw[hW6];exact B5.setCell (p:=⟨nb,0,none⟩) (Nat.le_refl _) _
 have HK6:Hid (∀k,k<w.heap.size->k≠nb->vh.ownBlock≠some k->W6.heap[k]?=w.heap[k]?):=fun k h1 h2 h3=>by
  rw[hb6 k h2,kb k (by omega) h3];exact HK4.out k h1
 have HG:Hid (vh.ownBlock=some g\/w.heap.size<=g):=by
  rcases hgb5 with h|h
  ·exact Or.inl h
  ·exact Or.inr (by omega)
 have HP6:=hyd P6;have HW6:=hyd hW6;obtain⟨bad,bcap,eb,_⟩:=P6.ob.at_;rw[q0V]at eb;have Heb:=hyd eb;have d1:W6.cell? ⟨nb,1,none⟩=some (.slice bad n bcap):=by rw[<-eb];exact(P6.ct 1 _ rfl).1
 have e1:w5.cell? ⟨nb,1,none⟩=some (.slice bad n bcap):=by rw[<-eb];exact(hcell 1 _ rfl).1
 have hz6:W6.heap.size=w5.heap.size:=by rw[hW6];simp[World.setCell]
 obtain⟨W7,hW7⟩:=nam (W6.alloc (.cells (bl (fun _=>false) 104).toArray 135));have x7:Below W6.heap.size W6 W7:=by rw[hW7];exact box_bel _ _
 have hnew7:W7.rangeAt W6.heap.size 0 (bl (fun _=>false) 104):=by rw[hW7];exact(TC.boxed W6 _ _).range
 have hO7:=P6.ob.below x7;have hbs7:base<=W7.heap.size:=by have:=x7.size;omega
 have HW7:=hyd hW7;have Hx7:=hyd x7;have Hzz:Hid (w.heap.size+4<=W6.heap.size/\w.heap.size+4=W4.heap.size):=⟨by omega,by omega⟩;have Hblk5:Hid (base<=g/\g<W6.heap.size):=⟨hblk5,by omega⟩;clear P4 hgb hgb5 hblk5 kb hcell K5 hb6 hz5 hzz hmk hnhA P6 eb hW6 hW7 x7 hO4 hne5 hnew hbs hz6;clear hO5 hgrow;go_wp2_with (first|(with_reducible show wpList _ _ _ (⟨_,Op.build 135 _,_,_,_,_⟩::_) _ _;rw[<-HW6.out];refine q1A rfl rfl ?_;refine Stop.out ?_));refine⟨?_⟩
 (try simp only[psm])
 refine q4l rfl _ rfl (fun _=>false) rfl ?_;rw[<-HW7.out]
 (try simp only[psm])
 refine q1j (by rfl) _ _ (by rfl) base vb (mkL n bh) (by rw[Heb.out];rfl) hO7 (by rw[q0V];omega) W6.heap.size (fun _=>false) (by rfl) hnew7 hbs7 _ rfl ?_;rw[q0V];intro gg cap3 w8 hO8 hgrow8 hgb8 hl8
 (try simp only[psm])
 have P6:=HP6.out;have hzz:=Hzz.out;have hx7:=Hx7.out;have hb5:=Hblk5.out;have kb:∀k,k<W6.heap.size->vb.ownBlock≠some k->w8.heap[k]?=W6.heap[k]?:=fun k hk hne=>by
  rw[hgrow8.block k (by have:=hx7.size;omega) (fun e=>hne e.symm)];exact hx7.block k hk
 have hz7:W7.heap.size=W6.heap.size+1:=by rw[HW7.out];simp
 have hgg:=(hO8.blk gg rfl).1;have hggA:gg<w.heap.size\/w.heap.size+3<=gg:=by
  rcases hgb8 with h|h
  ·exact P6.nv gg h
  ·omega
 have hcell:=P6.ct.block (kb nb P6.ct.lt (fun e=>by have:=(P6.ob.blk nb e).1;omega));obtain⟨cx,cxf⟩:=hcell 1 _ rfl;have K9:=hcell.set 1 (by simp) (.slice (some ⟨gg,0,none⟩) (n+1) cap3);have hnvA:∀k,w.heap.size<=k->k<w.heap.size+3->vb.ownBlock≠some k:=fun k h1 h2 e=>by have:=P6.nv k e;omega
 have T2:=P6.ot.block (kb _ (by omega) (hnvA _ (by omega) (by omega)));have T1:=P6.zt.block (kb _ (by omega) (hnvA _ (by omega) (by omega)));have hnb2:nb≠w.heap.size+2:=by omega
 obtain⟨u1,u1f⟩:=T2 (1+n) _ (q0x _ (by omega));obtain⟨u2,u2f⟩:=T2 (97+n) _ (q0x _ (by omega));obtain⟨W9,hW9⟩:=nam (w8.setCell ⟨nb,1,none⟩ (.slice (some ⟨gg,0,none⟩) (n+1) cap3));rw[<-hW9]at K9;have hb9:∀k,k≠nb->W9.heap[k]?=w8.heap[k]?:=fun k hk=>by rw[hW9];exact Below.heap_setCell w8 ⟨nb,1,none⟩ _ k (fun e=>hk e)
 have V2:=T2.block (hb9 (w.heap.size+2) (by omega));have V1:=T1.block (hb9 (w.heap.size+1) (by omega));have V2a:=V2.set (1+n) (by rw[q0c];omega) (.bool true);rw[q2O]at V2a;have V2b:=V2a.set (97+n) (by rw[q0c];omega) (.bool true);rw[q2O,q0o (g:=rnP n) (fun i _=>by
  unfold rnP;by_cases e1:i=97+n
  ·simp[e1]
  ·by_cases e2:i=1+n
   ·simp[e2]
   ·simp[e1,e2])]at V2b
 obtain⟨W11,hW11⟩:∃W,W=(W9.setCell ⟨w.heap.size+2,1+n,none⟩ (.bool true)).setCell ⟨w.heap.size+2,97+n,none⟩ (.bool true):=⟨_,rfl⟩;rw[<-hW11]at V2b;have hb11:∀k,k≠w.heap.size+2->W11.heap[k]?=W9.heap[k]?:=fun k hk=>by
  rw[hW11,Below.heap_setCell _ ⟨w.heap.size+2,97+n,none⟩ _ k (fun e=>hk e),Below.heap_setCell _ ⟨w.heap.size+2,1+n,none⟩ _ k (fun e=>hk e)]
 have V1b:=V1.block (hb11 (w.heap.size+1) (by omega));obtain⟨M,hM⟩:∃M,M=bl (rnP n) 193:=⟨_,rfl⟩;rw[<-hM]at V2b;have hMl:M.length=193:=by rw[hM];exact q0c _ _
 have rM:=V2b.range;have tz:=q0I V1b;have hGr:=q0e (w.heap.size+1) M 0 W11;have hr':=World.rangeAt_setCells_same W11 (w.heap.size+1) 0 M (by rw[hMl];exact tz);have hfin:=run_loadVar_mid (P:=Tryz.prog) (W11.setCells (w.heap.size+1) 0 M) (w.heap.size+1) 0 247 M _ hr' Tryz.underlying247 rfl (by rw[hMl];exact q0h);obtain⟨WX,hWX⟩:∃W,W=W11.setCells (w.heap.size+1) 0 M:=⟨_,rfl⟩;rw[<-hWX]at hGr hfin;have hz8:=hgrow8.size;have hz9:W9.heap.size=w8.heap.size:=by rw[hW9];simp[World.setCell]
 have hz11:W11.heap.size=w8.heap.size:=by rw[hW11];simp[World.setCell,hz9]
 have kx:∀k,k<w8.heap.size->k≠w.heap.size+1->k≠w.heap.size+2->k≠nb->WX.heap[k]?=w8.heap[k]?:=fun k h0 h1 h2 h3=>by
  rw[hGr.block k (by omega) (fun e=>h1 (Option.some.inj e)),hb11 k h2,hb9 k h3]
 have hne8:∀k,(Value.slice (some ⟨g,0,none⟩) (n+1) cap2).ownBlock=some k->(Value.slice (some ⟨gg,0,none⟩) (n+1) cap3).ownBlock≠some k:=fun k hk e=>by
  cases hk;have e2:gg=g:=Option.some.inj e;rcases hgb8 with h|h
  ·rw[e2]at h;exact P6.ne g rfl h
  ·have:=hb5.2;omega
 have NX:NetIn nb base (.slice (some ⟨g,0,none⟩) (n+1) cap2) (.slice (some ⟨gg,0,none⟩) (n+1) cap3) (n+1) (fun p=>if p=n then f else hs p) (fun p=>if p=n then (fun _=>false) else bh p) F WX:=by
  have hmk:mkL n bh++[fun _=>false]=mkL (n+1) (fun p=>if p=n then (fun _=>false) else bh p):=by
   rw[q8J];congr 1
   ·exact List.map_congr_left (fun p hp=>by
      have:p<n:=by simpa using hp
      rw[if_neg (by omega)])
   ·simp
  rw[hmk]at hO8;have hg6:=P6.nh g rfl;refine⟨(K9.block (hb11 nb hnb2)).block (hGr.block nb (by omega) (fun e=>by have:=Option.some.inj e;omega)),P6.oh.keep (fun k hk=>?_),hO8.keep (fun k hk=>?_),hne8⟩
  ·cases hk;rw[kx g (by omega) (by omega) (by omega) (by omega)];exact kb g hb5.2 (fun e=>P6.ne g rfl e)
  ·cases hk;exact kx gg (by have:=hl8;omega) (by omega) (by omega) (by omega)
 have FX:NF nb vh vb (.slice (some ⟨g,0,none⟩) (n+1) cap2) (.slice (some ⟨gg,0,none⟩) (n+1) cap3) w WX:=by
  have B6:=P6.bw;have B7:Below nb w W7:=B6.trans (hx7.mono (by omega));have B8:Below nb w w8:=B7.grown hgrow8 (by have:=B7.size;omega) (fun q hq=>by have:=(P6.ob.blk q hq).1;omega);have B9:Below nb w W9:=by rw[hW9];exact B8.setCell (p:=⟨nb,1,none⟩) (Nat.le_refl _) _
  have B11:Below nb w W11:=by
   rw[hW11];exact(B9.setCell (p:=⟨w.heap.size+2,1+n,none⟩) (by show nb<=w.heap.size+2;omega) _).setCell (p:=⟨w.heap.size+2,97+n,none⟩) (by show nb<=w.heap.size+2;omega) _
  refine⟨B11.grown hGr (by have:=B11.size;omega) (fun q hq=>by cases hq;omega),fun k h1 h2 h3 h4=>?_,fun k hk=>?_,fun k hk=>?_⟩
  ·rw[kx k (by omega) (by omega) (by omega) h2,kb k (by omega) h4];exact HK6.out k h1 h2 h3
  ·cases hk;exact HG.out
  ·cases hk;rcases hgb8 with h|h
   ·exact Or.inl h
   ·exact Or.inr (by show w.heap.size<=gg;omega)
 have HWX:=hyd hWX;have HW11:Hid (W11=((w8.setCell ⟨nb,1,none⟩ (.slice (some ⟨gg,0,none⟩) (n+1) cap3)).setCell ⟨w.heap.size+2,1+n,none⟩ (.bool true)).setCell ⟨w.heap.size+2,97+n,none⟩ (.bool true)):=by show _=_;rw[hW11,hW9]
 have Hfin:=hyd hfin;have HMl:=hyd hMl;have HOM:Hid (M.toArray.all (·.oneCell')=true):=by show _=true;rw[hM];exact q0w _ _
 have HM:=hyd hM;clear P6 hzz hx7 hb5 kb hz7 hgg hggA hcell K9 hnvA T2 T1 hW9 hb9 V2 V1 V2a V2b hW11 hb11 V1b hM hMl hGr hr' hfin hWX hz8 hz9 hz11 kx hne8 hO8 hgrow8 hgb8 hl8 hnew7 hbs7 hO7 e1 d1;go_wp2_with (first|(with_reducible refine gld 247 ?_;rw[show w.heap.size+1+1=w.heap.size+2 from rfl,<-HW11.out];refine wpList_load_mid rfl 247 _ rfl (w.heap.size+2) 0 rfl M _ rM Tryz.underlying247 rfl (by rw[HMl.out];exact q0h) ?_)|(with_reducible refine gst 247 ?_;refine wpList_store_mid rfl 247 _ _ rfl (w.heap.size+1) 0 M.toArray rfl rfl (by simpa[HMl.out]using tz) (by simpa[HMl.out]using q0h) HOM.out ?_;rw[List.toList_toArray,<-HWX.out]));refine bodyPost_ret (v:=.agg M.toArray) (res_load1 Tryz.results219 rfl Hfin.out) rfl ?_;exact⟨_,_,by rw[HM.out],NX,FX⟩
theorem q4L:∃i,Tryz.prog.info? 78=some i/\i.zero=some (.slice none 0 0)/\i.size=1/\i.bytes=24:=by
 have h1:(Tryz.prog.info? 78).isSome=true:=by kernel_rfl
 obtain⟨i,hi⟩:=Option.isSome_iff_exists.1 h1;refine⟨i,hi,?_,?_,?_⟩
 ·have:((Tryz.prog.info? 78).bind (·.zero))=some (.slice none 0 0):=by kernel_rfl
  rw[hi]at this;exact this
 ·have:((Tryz.prog.info? 78).map (·.size))=some 1:=by kernel_rfl
  rw[hi]at this;simpa using this
 ·have:((Tryz.prog.info? 78).map (·.bytes))=some 24:=by kernel_rfl
  rw[hi]at this;simpa using this
def nilL (n:Nat):List Value:=(List.range n).map fun _=>.slice none 0 0
theorem q9h (w:World) (n:Nat) (hn:n<=1000000):(Instr.makeSlice 74 (.int .i64 (n:Int)) (.int .i64 (n:Int))).run Tryz.prog w=.ok (.slice (some ⟨w.heap.size,0,none⟩) n n) (w.alloc (.cells (nilL n).toArray 78)):=by
 obtain⟨i,hi,hz,hs,hb⟩:=q4L;have h:=run_make (P:=Tryz.prog) w 74 78 i (.slice none 0 0) Tryz.underlying74 hi hz .i64 .i64 n n (by omega) (by omega) (by rw[hb];omega) (by omega);rw[hs]at h;simp only[Int.toNat_natCast,Nat.mul_one]at h;rw[show(Value.slice none 0 0).cells=#[.slice none 0 0] from rfl,q3n]at h;exact h
def t0 (N:Nat) (vd:Nat->Int) (i j:Nat):Bool:=ofR N vd i != ofR N vd j
theorem TBO.first (w:World) (N:Nat) (ty:TypeId) (t:Nat->Nat->Bool):TBO w.heap.size w.heap.size N (fun _=>0) t 0 (w.alloc (.cells (nilL (N+1)).toArray ty)):=by
 have T:=TC.boxed w (nilL (N+1)) ty;have e:∀i,i<N+1->(nilL (N+1))[i]?=some (.slice none 0 0):=fun i hi=>by simp[nilL,hi]
 exact⟨fun i hi=>by omega,fun i _ hi=>(T i _ (e i hi)).1,fun i hi=>(T i _ (e i hi)).2,fun i hi=>by omega,fun i j hi=>by omega,fun i hi=>by omega⟩
def rwT (N:Nat) (vd:Nat->Int) (i k a b:Nat):Bool:=if a=i then decide (b<k)&&t0 N vd i b else t0 N vd a b
inductive Apt (N:Nat) (vd:Nat->Int) (nx:Nat->Nat->Int) (bs:List Nat):Nat->Nat->Prop
 |base {i j:Nat} (hi:i<=N) (hj:j<=N) (h:t0 N vd i j=true):Apt N vd nx bs i j
 |step {i j b:Nat} (hi:i<=N) (hj:j<=N) (hb:b∈bs) (h:Apt N vd nx bs (toR N nx i b) (toR N nx j b)):Apt N vd nx bs i j
structure AptT (N:Nat) (vd:Nat->Int) (nx:Nat->Nat->Int) (bs:List Nat) (t:Nat->Nat->Bool):Prop where
 sub:∀i j,i<=N->j<=N->t i j=true->Apt N vd nx bs i j
 sym:∀i j,i<=N->j<=N->t i j=t j i
 irr:∀i,i<=N->t i i=false
 base:∀i j,i<=N->j<=N->t0 N vd i j=true->t i j=true
theorem AptT.first (N:Nat) (vd:Nat->Int) (nx:Nat->Nat->Int) (bs:List Nat):AptT N vd nx bs (t0 N vd):=
 ⟨fun _ _ h1 h2 h=>.base h1 h2 h,fun i j _ _=>by simp only[t0];exact bne_comm,fun i _=>by simp[t0],fun _ _ _ _ h=>h⟩
def sym2 (t:Nat->Nat->Bool) (i j:Nat):Nat->Nat->Bool:=upT (upT t i j true) j i true
theorem q2Q (t:Nat->Nat->Bool) (i j a b:Nat):sym2 t i j a b=(decide (a=i/\b=j) || decide (a=j/\b=i) || t a b):=by
 unfold sym2 upT;by_cases h1:a=j/\b=i
 ·simp[h1]
 ·by_cases h2:a=i/\b=j
  ·simp[h2]
  ·simp[h1,h2]
theorem AptT.put (h:AptT N vd nx bs t) {i j:Nat} (hi:i<=N) (hj:j<=N) (hne:i≠j) (hbs:∀b∈bs,b<256) (hnx:∀i b,i<N->b<256->nx i b<N) (hp:partR N nx bs t i j bs.length=true):AptT N vd nx bs (sym2 t i j):=by
 unfold partR at hp;rw[List.take_length,List.any_eq_true]at hp;obtain⟨b,hb,hp⟩:=hp;have x1:=q6M (fun h=>hnx i b h (hbs b hb)) hi;have x2:=q6M (fun h=>hnx j b h (hbs b hb)) hj;refine⟨fun a c ha hc ht=>?_,fun a c ha hc=>?_,fun a ha=>?_,fun a c ha hc ht=>?_⟩
 ·rw[q2Q]at ht;by_cases e1:a=i/\c=j
  ·obtain⟨rfl,rfl⟩:=e1;exact .step ha hc hb (h.sub _ _ x1 x2 hp)
  ·by_cases e2:a=j/\c=i
   ·obtain⟨rfl,rfl⟩:=e2;exact .step ha hc hb (h.sub _ _ x2 x1 (by rw[h.sym _ _ x2 x1];exact hp))
   ·simp only[e1,e2,decide_false,Bool.false_or]at ht;exact h.sub a c ha hc ht
 ·rw[q2Q,q2Q,h.sym a c ha hc];congr 1;rw[Bool.or_comm];congr 1
  ·simp[and_comm]
  ·simp[and_comm]
 ·rw[q2Q,h.irr a ha];have h1:¬(a=i/\a=j):=fun⟨e,f⟩=>hne (e▸f)
  have h2:¬(a=j/\a=i):=fun⟨e,f⟩=>hne (f▸e)
  simp only[h1,h2,decide_false,Bool.or_false]
 ·rw[q2Q,h.base a c ha hc ht,Bool.or_true]
theorem y0O {α:Type}{L:List α}{f g:α->Bool} (h:∀p∈L,f p=true->g p=true) {q:α} (hq:q∈L) (h1:g q=true) (h2:f q=false):L.countP f<L.countP g:=by
 induction L with
 |nil=>cases hq
 |cons x L ih=>
  rw[List.countP_cons,List.countP_cons];have hle:L.countP f<=L.countP g:=List.countP_mono_left (fun p hp=>h p (by simp[hp]));rcases List.mem_cons.1 hq with rfl|hq
  ·rw[h1,h2];simp;omega
  ·have:=ih (fun p hp=>h p (by simp[hp])) hq;have hx:=h x (by simp);cases hf:f x<;>cases hg:g x<;>simp_all<;>omega
def prs (N:Nat):List (Nat × Nat):=(List.range (N+1)).flatMap fun i=>(List.range (N+1)).map fun j=>(i,j)
theorem y0i:(i,j)∈prs N<->i<=N/\j<=N:=by
 simp[prs];omega
def opT (N:Nat) (t:Nat->Nat->Bool):Nat:=(prs N).countP fun p=>!t p.1 p.2
def isF:Option Value->Bool
 |some (.bool false)=>true
 |_=>false
def opn (N:Nat) (rk:Nat->Nat) (w:World):Nat:=(prs N).countP fun p=>isF (w.cell? ⟨rk p.1,p.2,none⟩)
theorem TBO.opn {base tb N:Nat}{rk:Nat->Nat}{t:Nat->Nat->Bool}{w:World} (h:TBO base tb N rk t (N+1) w):opn N rk w=opT N t:=by
 unfold Go.Proofs.YtoaaklhpmhjhkaaGreat.opn opT;refine List.countP_congr (fun p hp=>?_);obtain⟨i,j⟩:=p;have hm:=y0i.1 hp;rw[(h.r i (by omega) j _ (q0x _ (by omega))).1];cases t i j<;>simp[isF]
theorem y3v (hi:i<=N) (hj:j<=N) (h:t i j=false):opT N (sym2 t i j)<opT N t:=by
 refine y0O (q:=(i,j)) (fun p hp hf=>?_) (y0i.2 ⟨hi,hj⟩) (by simp[h]) (by simp[q2Q]);rw[q2Q]at hf
 revert hf
 cases t p.1 p.2<;>simp
def boolOf:Value->Nat
 |.bool true=>1
 |_=>0
def Clo (N:Nat) (nx:Nat->Nat->Int) (bs:List Nat) (t:Nat->Nat->Bool) (i j:Nat):Prop:=∀a b,b<a->a<=N->(a<i\/(a=i/\b<j))->t a b=false->partR N nx bs t a b bs.length=false
theorem y1a (pb N:Nat) (vd:Nat->Int) (nx:Nat->Nat->Int) (bs:List Nat) (w:World) (hN:N<=200) (hP:PLN pb N vd nx bs w) (hbs:∀(k b:Nat),bs[k]?=some b->b<256) (hl:bs.length<=256) (hnx:∀i b,i<N->b<256->nx i b<N):
  Calls Tryz.prog 29 #[.pointer (some ⟨pb,0,none⟩)] w fun e w'=>∃rk t,e=.returned (.slice (some ⟨w.heap.size,0,none⟩) (N+1) (N+1))/\TBO w.heap.size w.heap.size N rk t (N+1) w'/\Below w.heap.size w w'/\AptT N vd nx bs t/\Clo N nx bs t (N+1) 0:=by
 have HP:Hid (∀w',Below w.heap.size w w'->PLN pb N vd nx bs w'):=fun w' h=>hP.below h
 have HOf:Hid (∀(w':World) (i:Nat),Below w.heap.size w w'->i<=N->Calls Tryz.prog 60 #[.pointer (some ⟨pb,0,none⟩),.int .i64 i] w' fun e w''=>e=.returned (.int .i64 (ofR N vd i))/\w''=w'):=fun w' i h hi=>y1s pb N vd nx bs i w' (by omega) (hP.below h) hi
 have HPa:Hid (∀(w':World) (t:Nat->Nat->Bool) (i j:Nat),Below w.heap.size w w'->TB (some ⟨w.heap.size,0,none⟩) N t w'->i<=N->j<=N->Calls Tryz.prog 61 #[.pointer (some ⟨pb,0,none⟩),.slice (some ⟨w.heap.size,0,none⟩) (N+1) (N+1),.int .i64 i,.int .i64 j] w' fun e w''=>e=.returned (.bool (partR N nx bs t i j bs.length))/\w''=w'):=fun w' t i j h hT h1 h2=>y0m pb N vd nx bs _ _ t i j w' (by omega) (hP.below h) hT h1 h2 hbs hl hnx
 have Hbs:Hid (∀b∈bs,b<256):=fun b hb=>by
  obtain⟨k,hk,e⟩:=List.getElem_of_mem hb;exact hbs k b (by rw[List.getElem?_eq_getElem hk,e])
 have Hnx:=hyd hnx;clear hbs hnx hl;obtain⟨va,vc,c0,_⟩:=hP.v;have hN':(N:Int)<=200:=by omega
 have hmk:(Instr.makeSlice 74 (.int .i64 ((N:Int)+1)) (.int .i64 ((N:Int)+1))).run Tryz.prog w=.ok (.slice (some ⟨w.heap.size,0,none⟩) (N+1) (N+1)) (w.alloc (.cells (nilL (N+1)).toArray 78)):=q9h w (N+1) (by omega);obtain⟨W1,hW1⟩:=nam (w.alloc (.cells (nilL (N+1)).toArray 78));rw[<-hW1]at hmk;have B1:Below w.heap.size w W1:=by rw[hW1];exact box_bel _ _
 have O1:TBO w.heap.size w.heap.size N (fun _=>0) (t0 N vd) 0 W1:=by rw[hW1];exact TBO.first w N _ _
 have s1:w.heap.size+1<=W1.heap.size:=by rw[hW1];simp
 clear hW1 hP;go_enter Tryz.func29,Tryz.ntmps29;go_wp2_with fail
 go_loopw [5] (fun x w'=>∃(i:Nat) (rk:Nat->Nat),i<=N+1/\x=.int .i64 i/\TBO w.heap.size w.heap.size N rk (t0 N vd) i w'/\Below w.heap.size w w'/\w.heap.size+1<=w'.heap.size) (fun x _=>N+1-(intOf x).toNat)
 case atStart=>exact⟨0,_,by omega,rfl,O1,B1,s1⟩
 case round=>
  clear O1 B1 s1 hmk c0;obtain⟨i,rk,hi,rfl,O,B,sz⟩:=hrel;by_cases hlt:i<=N
  ·have hlt':(i:Int)<=N:=by omega
   have hmk:(Instr.makeSlice 78 (.int .i64 ((N:Int)+1)) (.int .i64 ((N:Int)+1))).run Tryz.prog wr=.ok (.slice (some ⟨wr.heap.size,0,none⟩) (N+1) (N+1)) (wr.alloc (.cells (bl (fun _=>false) (N+1)).toArray 4)):=q5i wr (N+1) (by omega);have O2:=O.row (by omega) (by omega) (by omega) 4;obtain⟨W2,hW2⟩:=nam (wr.alloc (.cells (bl (fun _=>false) (N+1)).toArray 4));rw[<-hW2]at hmk O2;have x2:Below wr.heap.size wr W2:=by rw[hW2];exact box_bel _ _
   have cz:W2.cell? ⟨w.heap.size,i,none⟩=some (.slice none 0 0):=by rw[x2.cell (p:=⟨w.heap.size,i,none⟩) (by show w.heap.size<wr.heap.size;omega)];exact O.z i (Nat.le_refl _) (by omega)
   have fz:W2.frozen? ⟨w.heap.size,i,none⟩=false:=by rw[World.frozen?_of_block (w:=wr) (a:=⟨w.heap.size,i,none⟩) (x2.block _ (by show w.heap.size<wr.heap.size;omega))];exact O.f i (by omega)
   obtain⟨W3,hW3⟩:=nam (W2.setCell ⟨w.heap.size,i,none⟩ (.slice (some ⟨wr.heap.size,0,none⟩) (N+1) (N+1)));rw[<-hW3]at O2;have B3:Below w.heap.size w W3:=by rw[hW3];exact(B.trans (x2.mono (by omega))).setCell (p:=⟨w.heap.size,i,none⟩) (Nat.le_refl _) _
   have s3:w.heap.size+1<=W3.heap.size:=by rw[hW3];have:=x2.size;simp;omega
   have O3:=O2.congr (t':=rwT N vd i 0) (fun a b _ _=>by simp[rwT]);obtain⟨rk2,hrk2⟩:∃rk2:Nat->Nat,rk2=fun a=>if a=i then wr.heap.size else rk a:=⟨_,rfl⟩
   rw[<-hrk2]at O3;have hr2:rk2 i=wr.heap.size:=by rw[hrk2];simp
   have Hr2:=hyd hr2;have HW3:=hyd hW3;clear O O2 hW2 hW3 hrk2 hr2 x2 B sz;go_wp2_with fail;rw[<-HW3.out];clear HW3 cz fz hmk
   go_loopw [6] (fun x w'=>∃k:Nat,k<=N+1/\x=.int .i64 k/\TBO w.heap.size w.heap.size N rk2 (rwT N vd i k) (i+1) w'/\Below w.heap.size w w'/\w.heap.size+1<=w'.heap.size) (fun x _=>N+1-(intOf x).toNat)
   case atStart=>exact⟨0,by omega,rfl,O3,B3,s3⟩
   case round=>
    clear O3 B3 s3;obtain⟨k,hk,rfl,O,B,sz⟩:=hrel;by_cases hkl:k<=N
    ·have hkl':(k:Int)<=N:=by omega
     have hi1:(i:Int)<N+1:=by omega
     have hk1:(k:Int)<N+1:=by omega
     have ct:=O.c i (by omega);obtain⟨cr,fr⟩:=O.r i (by omega) k _ (q0x _ (by omega));obtain⟨R,hR⟩:=nam (rk2 i);rw[<-hR]at ct cr fr;have O2:=O.set (i:=i) (j:=k) (by omega) (by omega) (t0 N vd i k);have O3:=O2.congr (t':=rwT N vd i (k+1)) (fun a b _ _=>by
      simp only[upT,rwT];by_cases e1:a=i
      ·by_cases e2:b=k
       ·simp[e1,e2]
       ·have:decide (b<k+1)=decide (b<k):=by simp;omega
        simp[e1,e2,this]
      ·simp[e1])
     rw[<-hR]at O3;have HX1:=hyd (HOf.out wr.drew i B.drew hlt);have HX2:=hyd (HOf.out wr.drew k B.drew hkl);have HO3:=hyd O3;have hRb:w.heap.size<=R/\R≠w.heap.size:=by rw[hR];have:=O.ne i (by omega);exact⟨this.2,this.1⟩
     have HB:Hid (Below w.heap.size w (wr.setCell ⟨R,k,none⟩ (.bool (t0 N vd i k)))):=B.setCell (p:=⟨R,k,none⟩) hRb.1 _;have ct2:(wr.setCell ⟨R,k,none⟩ (.bool (t0 N vd i k))).cell? ⟨w.heap.size,i,none⟩=some (.slice (some ⟨R,0,none⟩) (N+1) (N+1)):=by
      rw[World.cell?_setCell_far _ _ _ _ (by show R≠w.heap.size;exact hRb.2)];exact ct
     clear O O2 O3 hR B;go_wp2_with fail;have hS0:=ct;refine wp_region_held_drew (S:=fun w'=>w'.cell? ⟨w.heap.size,i,none⟩=some (.slice (some ⟨R,0,none⟩) (N+1) (N+1))) (by kernel_rfl) hS0 (fun hHeld=>?_);refine wpAnyH_take (i:=0) (oi:=?oZ0) (v:=?vZ0) ?hiZ0 ?hsZ0 ?hfZ0 ?hrZ0 ?hQZ0 (Or.inl ⟨?hwZ0,?hyZ0⟩) ?hSZ0 ?restZ0
     case hiZ0=>simp only[List.getElem?_toArray,List.getElem?_cons_zero];rfl
     case hsZ0=>kernel_rfl
     case hfZ0=>kernel_rfl
     case hrZ0=>kernel_rfl
     case hQZ0=>exact fun _ _ _ h=>h
     case hSZ0=>assumption
     case hwZ0=>rfl
     case hyZ0=>intro w' hSw;(try dsimp only at hSw);go_simp;first|done|with_reducible rfl
     (try simp only[psm])
     refine wpAnyH_take (i:=1) (by simp only[gel];rfl) (by kernel_rfl) (by kernel_rfl) (by kernel_rfl) (by exact fun _ _ _ h=>h) (Or.inl ⟨by rfl,by intro w' hSw;(try dsimp only at hSw);go_simp;first|done|with_reducible rfl⟩) (by assumption) ?_
     (try simp only[psm])
     refine wpAnyH_take (i:=2) (by simp only[gel];rfl) (by kernel_rfl) (by kernel_rfl) (by kernel_rfl) (by exact fun _ _ _ h=>h) (Or.inl ⟨by rfl,by intro w' hSw;(try dsimp only at hSw);go_simp;first|done|with_reducible rfl⟩) (by assumption) ?_
     (try simp only[psm])
     refine wpAnyH_take (i:=3) (by simp only[gel];rfl) (by kernel_rfl) (by kernel_rfl) (by kernel_rfl) (by exact fun _ _ _ h=>h) (Or.inl ⟨by rfl,by intro w' hSw;(try dsimp only at hSw);go_simp;first|done|with_reducible rfl⟩) (by assumption) ?_
     (try simp only[psm])
     refine wpAnyH_take (i:=4) (by simp only[gel];rfl) (by kernel_rfl) (by kernel_rfl) (by kernel_rfl) (by exact fun _ _ _ h=>h) (Or.inl ⟨by rfl,by intro w' hSw;(try dsimp only at hSw);go_simp;first|done|with_reducible rfl⟩) (by assumption) ?_
     (try simp only[psm])
     refine wpAnyH_take (i:=5) (by simp only[gel];rfl) (by kernel_rfl) (by kernel_rfl) (by kernel_rfl) (by exact fun _ _ _ h=>h) (Or.inl ⟨by rfl,by intro w' hSw;(try dsimp only at hSw);go_simp;first|done|with_reducible rfl⟩) (by assumption) ?_
     (try simp only[psm])
     refine wpAnyH_take (i:=6) (by simp only[gel];rfl) (by kernel_rfl) (by kernel_rfl) (by kernel_rfl) (by exact fun _ _ _ h=>h) (Or.inl ⟨by rfl,by intro w' hSw;(try dsimp only at hSw);go_simp;first|done|with_reducible rfl⟩) (by assumption) ?_
     (try simp only[psm])
     refine wpAnyH_take (i:=8) (by simp only[gel];rfl) (by kernel_rfl) (by kernel_rfl) (by kernel_rfl) (by exact fun _ _ _ h=>h) (Or.inl ⟨by rfl,by intro w' hSw;(try dsimp only at hSw);go_simp;first|done|with_reducible rfl⟩) (by assumption) ?_
     (try simp only[psm])
     refine wpAnyH_take (i:=9) (by simp only[gel];rfl) (by kernel_rfl) (by kernel_rfl) (by kernel_rfl) (by exact fun _ _ _ h=>h) (Or.inl ⟨by rfl,by intro w' hSw;(try dsimp only at hSw);go_simp;first|done|with_reducible rfl⟩) (by assumption) ?_
     (try simp only[psm])
     refine wpAnyH_ready (rs:=[7]) (by kernel_rfl) (by simp) ?_;refine AllReadyH.cons (o:=?oZ7) ?hiZ7 (fun K hK=>?_) AllReadyH.nil
     case hiZ7=>simp only[gel];rfl
     go_simp;refine Calls.mono HX1.out ?_;rintro e w1 ⟨rfl,rfl⟩;go_wp2_with fail;refine hK.out _ _ hS0 (fun hHeld=>?_);clear hK K
     (try simp only[psm])
     refine wpAnyH_ready (rs:=[10]) (by kernel_rfl) (by simp) ?_;refine AllReadyH.cons (o:=?oZ10) ?hiZ10 (fun K hK=>?_) AllReadyH.nil
     case hiZ10=>simp only[gel];rfl
     go_simp;refine Calls.mono HX2.out ?_;rintro e w1 ⟨rfl,rfl⟩;go_wp2_with fail;refine hK.out _ _ hS0 (fun hHeld=>?_);clear hK K
     (try simp only[psm])
     refine wpAnyH_take (i:=11) (by simp only[gel];rfl) (by kernel_rfl) (by kernel_rfl) (by kernel_rfl) (by exact fun _ _ _ h=>h) (Or.inl ⟨by rfl,by intro w' hSw;(try dsimp only at hSw);go_simp;first|done|with_reducible rfl⟩) (by assumption) ?_
     (try simp only[psm])
     refine wpAnyH_take (i:=12) (by simp only[gel];rfl) (by kernel_rfl) (by kernel_rfl) (by kernel_rfl) (by exact fun _ _ _ h=>h) (Or.inl ⟨by rfl,by intro w' hSw;(try dsimp only at hSw);go_simp;first|done|with_reducible rfl⟩) (by assumption) ?_
     (try simp only[psm])
     refine wpAnyH_ready (rs:=[13]) (by kernel_rfl) (by simp) ?_;refine AllReadyH.cons (o:=?oZ13) ?hiZ13 (fun K hK=>?_) AllReadyH.nil
     case hiZ13=>simp only[gel];rfl
     go_simp;refine hK.out _ _ ct2 (fun hHeld=>?_);clear hK K
     (try simp only[psm])
     refine wpAnyH_done (by kernel_rfl) ?_ _;have O4:TBO w.heap.size w.heap.size N rk2 (rwT N vd i (k+1)) (i+1) (wr.setCell ⟨R,k,none⟩ (.bool (t0 N vd i k))).drew:=HO3.out.keep rfl (fun _ _=>rfl);have B4:=HB.out.drew;have s4:w.heap.size+1<=(wr.setCell ⟨R,k,none⟩ (.bool (t0 N vd i k))).drew.heap.size:=by
      show w.heap.size+1<=(wr.setCell ⟨R,k,none⟩ (.bool (t0 N vd i k))).heap.size;simpa using sz
     clear HO3 HB;go_wp2_with fail
     (try simp only[Act.put])
     go_roundw
     case rel=>exact⟨k+1,by omega,by go_num,O4,B4,s4⟩
     case measure=>simp[intOf];omega
    ·have hge:¬(k:Int)<=N:=by omega
     have hkN:k=N+1:=by omega
     subst hkN;have O4:=O.congr (t':=t0 N vd) (fun a b _ hb=>by
      simp only[rwT,hb,decide_true,Bool.true_and];by_cases e:a=i
      ·simp[e]
      ·simp[e])
     clear O;go_wp2_with fail;go_roundw
     case rel=>exact⟨i+1,rk2,by omega,by go_num,O4,B,sz⟩
     case measure=>simp[intOf];omega
  ·have hge:¬(i:Int)<=N:=by omega
   have hiN:i=N+1:=by omega
   subst hiN;have A0:=AptT.first N vd nx bs;clear HOf;go_wp2_with fail
   go_loopw [7] (fun x w'=>∃(t:Nat->Nat->Bool) (M:Bool),x=.bool M/\TBO w.heap.size w.heap.size N rk t (N+1) w'/\AptT N vd nx bs t/\(M=false->Clo N nx bs t (N+1) 0)/\Below w.heap.size w w') (fun x w'=>2*opn N rk w'+boolOf x)
   case atStart=>exact⟨_,true,rfl,O,A0,(fun h=>by cases h),B⟩
   case round=>
    clear O A0 B sz;obtain⟨t,M,rfl,O,A,hC,B⟩:=hrel;cases M
    ·have HC:=hyd (hC rfl);clear hC;go_wp2_with fail;go_ret;exact⟨rk,t,rfl,O,B,A,HC.out⟩
    ·clear hC;obtain⟨OP,hOP⟩:=nam (opn N rk wr);have HOP:=hyd hOP;clear hOP;go_wp2_with fail
     go_loopw [7,8] (fun m x w'=>∃(t:Nat->Nat->Bool) (M:Bool) (i:Nat),m=.bool M/\x=.int .i64 i/\i<=N+1/\TBO w.heap.size w.heap.size N rk t (N+1) w'/\AptT N vd nx bs t/\(M=false->Clo N nx bs t i 0)/\(opn N rk w'+(if M then 1 else 0)<=OP)/\Below w.heap.size w w') (fun _ x _=>N+1-(intOf x).toNat)
     case atStart=>exact⟨t,false,0,rfl,rfl,by omega,O,A,(fun _ a b _ _ h=>by omega),by rw[HOP.out];simp,B⟩
     case round=>
      clear O A B;obtain⟨t,M,i,rfl,rfl,hi,O,A,hC,hop,B⟩:=hrel;by_cases hil:i<=N
      ·have hil':(i:Int)<=N:=by omega
       have hi1:(i:Int)<N+1:=by omega
       have HC:=hyd hC;clear hC;go_wp2_with fail
       go_loopw [7,9] (fun m x w'=>∃(t:Nat->Nat->Bool) (M:Bool) (j:Nat),m=.bool M/\x=.int .i64 j/\j<=i/\TBO w.heap.size w.heap.size N rk t (N+1) w'/\AptT N vd nx bs t/\(M=false->Clo N nx bs t i j)/\(opn N rk w'+(if M then 1 else 0)<=OP)/\Below w.heap.size w w') (fun _ x _=>i-(intOf x).toNat)
       case atStart=>exact⟨t,M,0,rfl,rfl,by omega,O,A,HC.out,hop,B⟩
       case round=>
        clear O A B HC hop;obtain⟨t,M,j,rfl,rfl,hj,O,A,hC,hop,B⟩:=hrel;have HC:=hyd hC;clear hC;by_cases hjl:j<i
        ·have hjl':(j:Int)<i:=by omega
         have hj1:(j:Int)<N+1:=by omega
         have ci:=O.c i (by omega);have cj:=O.c j (by omega);obtain⟨cr,fr⟩:=O.r i (by omega) j _ (q0x _ (by omega));obtain⟨cs,fs⟩:=O.r j (by omega) i _ (q0x _ (by omega));have HPt:=hyd (HPa.out wr t i j B O.tb hil (by omega));have O2:=(O.set (i:=i) (j:=j) (by omega) (by omega) true).set (i:=j) (j:=i) (by omega) (by omega) true;have B2:Below w.heap.size w ((wr.setCell ⟨rk i,j,none⟩ (.bool true)).setCell ⟨rk j,i,none⟩ (.bool true)):=(B.setCell (p:=⟨rk i,j,none⟩) (O.ne i (by omega)).2 _).setCell (p:=⟨rk j,i,none⟩) (O.ne j (by omega)).2 _;have hne1:rk i≠rk j:=fun e=>by have:=O.inj i j (by omega) (by omega) e;omega
         have hneT:rk i≠w.heap.size:=(O.ne i (by omega)).1;have cj2:(wr.setCell ⟨rk i,j,none⟩ (.bool true)).cell? ⟨w.heap.size,j,none⟩=some (.slice (some ⟨rk j,0,none⟩) (N+1) (N+1)):=by
          rw[World.cell?_setCell_far _ _ _ _ (by show rk i≠w.heap.size;exact hneT)];exact cj
         have cs2:(wr.setCell ⟨rk i,j,none⟩ (.bool true)).cell? ⟨rk j,i,none⟩=some (.bool (t j i)):=by
          rw[World.cell?_setCell_far _ _ _ _ (by show rk i≠rk j;exact hne1)];exact cs
         have fs2:(wr.setCell ⟨rk i,j,none⟩ (.bool true)).frozen? ⟨rk j,i,none⟩=false:=by rw[World.frozen?_setCell];exact fs
         have HO2:=hyd O2;have hlt2:t i j=false->opn N rk ((wr.setCell ⟨rk i,j,none⟩ (.bool true)).setCell ⟨rk j,i,none⟩ (.bool true))<opn N rk wr:=fun h=>by
          rw[HO2.out.opn,O.opn];exact y3v hil (by omega) h
         have HL2:=hyd hlt2;obtain⟨R,hR⟩:=nam (rk i);obtain⟨S,hS⟩:=nam (rk j);have HR:=hyd2 hR hS;rw[<-hR]at ci cr fr cj2 cs2 fs2 B2 HO2 HL2;rw[<-hS]at cj cs fs cj2 cs2 fs2 B2 HO2 HL2;obtain⟨W2,hW2⟩:=nam (wr.setCell ⟨R,j,none⟩ (.bool true));rw[<-hW2]at cj2 cs2 fs2 B2 HO2 HL2;have HW2:=hyd hW2;have HB2:=hyd B2;clear O2 hlt2 hR hS hne1 hneT hW2 B2 cs fs;cases hX:t i j
         ·rw[hX]at cr;cases hPp:partR N nx bs t i j bs.length
          ·rw[hPp]at HPt;have HC2:Hid (M=false->Clo N nx bs t i (j+1)):=fun h a b h1 h2 h3 h4=>by
            by_cases e:a=i/\b=j
            ·obtain⟨rfl,rfl⟩:=e;exact hPp
            ·exact HC.out h a b h1 h2 (by omega) h4
           clear HC HO2 HL2 HB2 cj2 cs2 fs2 HW2 hPp hX;go_wp2_with fail;refine HPt.out.mono ?_;rintro e w' ⟨rfl,rfl⟩;go_wp2_with fail;go_roundw
           case rel=>exact⟨t,M,j+1,rfl,by go_num,by omega,O,A,HC2.out,hop,B⟩
           case measure=>simp[intOf];omega
          ·rw[hPp]at HPt;have A2:=A.put hil (show j<=N by omega) (by omega) Hbs.out Hnx.out hPp;have hop2:=HL2.out hX;have hop3:opn N rk (W2.setCell ⟨S,i,none⟩ (.bool true))+1<=OP:=by omega
           have Hop3:=hyd hop3;clear HC HL2 hPp hX hop2 hop3 A hop;go_wp2_with fail;refine HPt.out.mono ?_;rintro e w' ⟨rfl,rfl⟩;go_wp2_with (first|(with_reducible show wpList _ _ _ ({ dst:=some 93,op:=Op.load _ _,type:=_,pos:=_,after:=_,guard:=_ }::_) _ _;refine Stop.out ?_));refine⟨?_⟩;rw[<-HW2.out];go_wp2_with fail;go_roundw
           case rel=>exact⟨sym2 t i j,true,j+1,rfl,by go_num,by omega,HO2.out,A2,(fun h=>by cases h),by simpa using Hop3.out,HB2.out⟩
           case measure=>simp[intOf];omega
         ·rw[hX]at cr;have HC2:Hid (M=false->Clo N nx bs t i (j+1)):=fun h a b h1 h2 h3 h4=>by
           by_cases e:a=i/\b=j
           ·obtain⟨rfl,rfl⟩:=e;rw[hX]at h4;cases h4
           ·exact HC.out h a b h1 h2 (by omega) h4
          clear HC HO2 HL2 HB2 cj2 cs2 fs2 HW2 HPt hX;go_wp2_with fail;go_roundw
          case rel=>exact⟨t,M,j+1,rfl,by go_num,by omega,O,A,HC2.out,hop,B⟩
          case measure=>simp[intOf];omega
        ·have hge:¬(j:Int)<i:=by omega
         have hji:j=i:=by omega
         subst hji;have HC2:Hid (M=false->Clo N nx bs t (j+1) 0):=fun h a b h1 h2 h3 h4=>HC.out h a b h1 h2 (by omega) h4
         clear HC;go_wp2_with fail;go_roundw
         case rel=>exact⟨t,M,j+1,rfl,by go_num,by omega,O,A,HC2.out,hop,B⟩
         case measure=>simp[intOf];omega
      ·have hge:¬(i:Int)<=N:=by omega
       have hiN:i=N+1:=by omega
       subst hiN;have HC:=hyd hC;clear hC;go_wp2_with fail;go_roundw
       case rel=>exact⟨t,M,rfl,O,A,HC.out,B⟩
       case measure=>
        have:=HOP.out;cases M<;>simp[boolOf]at hop ⊢<;>omega
end Go.Proofs.YtoaaklhpmhjhkaaGreat
