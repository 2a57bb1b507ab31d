import Derived.Test.YtoaaklhpmhjhkaaGreatC14
set_option maxRecDepth 100000
set_option maxHeartbeats 4000000
set_option linter.all false
namespace Go.Proofs.YtoaaklhpmhjhkaaGreat
open Go.RowKit
open Bm
structure Stop (p:Prop):Prop where
 out:p
variable {a : Act}{bs : List Nat}{N i j : Nat}{vd : Nat → Int}{t : Nat → Nat → Bool}{nx : Nat → Nat → Int}{o : Oper}{w : World}
theorem q2R (x:Operand) (ho:o.op=.buildSlice 129 1 #[(0,x)]) (f:Nat->Bool) (hx:a.eval x=.agg (bl f 256).toArray):
  (execOp a.eval o).run Tryz.prog w=.ok (.value (.slice (some ⟨w.heap.size,0,none⟩) 1 1)) (w.alloc (.cells (bl f 256).toArray 251)):=by
 unfold execOp;have b:=q6V f w;have e:(#[((0:Nat),x)].map λ(p:Nat × Operand)=>(p.1,a.eval p.2))=#[(0,.agg (bl f 256).toArray)]:=by simp[hx]
 simp only[ho,Sem.run_bind,e,b,Result.andThen_ok,Sem.run_pure]
def rnP (n:Nat):Nat->Bool:=λi=>i==1+n || i==97+n
structure PC (base:Nat) (vh vb:Value) (nb n:Nat) (hs bh:Nat->Nat->Bool) (m:Nat) (F f c:Nat->Bool) (w W:World):Prop where
 ct:TC nb (vh::vb::bl F 104) W
 oh:OwnH base vh (mkL n hs) W
 ob:OwnS base vb (mkL m bh) W
 ne:∀k,vh.ownBlock=some k->vb.ownBlock≠some k
 st:TC w.heap.size (bl f 256) W
 zt:TC (w.heap.size+1) (bl (fun _=>false) 193) W
 ot:TC (w.heap.size+2) (bl c 193) W
 bw:Below nb w W
 nh:∀k,vh.ownBlock=some k->k<w.heap.size\/w.heap.size+3<=k
 nv:∀k,vb.ownBlock=some k->k<w.heap.size\/w.heap.size+3<=k
theorem y0k (nb base:Nat) (vh vb:Value) (n:Nat) (hs bh:Nat->Nat->Bool) (F f:Nat->Bool) (w:World) (hN:NetIn nb base vh vb n hs bh F w) (hnb:nb<base) (hbw:base<=w.heap.size) (hn:n<96):
  Calls Tryz.prog 219 #[.pointer (some ⟨nb,0,none⟩),.agg (bl f 256).toArray] w λe w'=>∃vh' vb',e=.returned (.agg (bl (rnP n) 193).toArray)/\NetIn nb base vh' vb' (n+1) (λp=>if p=n then f else hs p) (λp=>if p=n then (λ_=>false) else bh p) F w'/\NF nb vh vb vh' vb' w w':=by
 have hz:=q1C;have bm:=hN.c.lt;have HN:=hyd hN;obtain⟨W1,af⟩:=nam (w.alloc (.cells (bl f 256).toArray 251));obtain⟨W2,ag⟩:=nam (W1.alloc (.cells (bl (λ_=>false) 193).toArray 247));obtain⟨o,ah⟩:=nam (W2.alloc (.cells (bl (λ_=>false) 193).toArray 247));have z1:W1.heap.size=w.heap.size+1:=by rw[af];simp
 have z2:W2.heap.size=w.heap.size+2:=by rw[ag];simp[z1]
 have z3:o.heap.size=w.heap.size+3:=by rw[ah];simp[z2]
 have S0:TC w.heap.size (bl f 256) o/\TC (w.heap.size+1) (bl (λ_=>false) 193) o/\TC (w.heap.size+2) (bl (λ_=>false) 193) o/\Below w.heap.size w o:=by
  have T1:=TC.boxed w (bl f 256) 251;have T2:=TC.boxed W1 (bl (λ_=>false) 193) 247;have T3:=TC.boxed W2 (bl (λ_=>false) 193) 247;have x1:=box_bel w (.cells (bl f 256).toArray 251);have x2:=box_bel W1 (.cells (bl (λ_=>false) 193).toArray 247);have x3:=box_bel W2 (.cells (bl (λ_=>false) 193).toArray 247);rw[<-af]at T1 x1;rw[<-ag,z1]at T2 x2;rw[<-ah,z2]at T3 x3;exact⟨(T1.block (x2.block _ (by omega))).block (x3.block _ (by omega)),T2.block (x3.block _ (by omega)),T3,(x1.trans (x2.mono (by omega))).trans (x3.mono (by omega))⟩
 obtain⟨s1,s2,s3,B3⟩:=S0;have N3:=hN.below B3;obtain⟨ad,cap,eh,_⟩:=hN.h.at_;rw[q0V]at eh;have aE:=hyd eh;have c0:o.cell? ⟨nb,0,none⟩=some (.slice ad n cap):=by rw[<-eh];exact(N3.c 0 _ rfl).1
 have a4:o.frozen? ⟨nb,0,none⟩=false:=(N3.c 0 _ rfl).2;have az:=s1.range;have HW:Hid (o=((w.alloc (.cells (bl f 256).toArray 251)).alloc (.cells (bl (λ_=>false) 193).toArray 247)).alloc (.cells (bl (λ_=>false) 193).toArray 247)):=by show _=_;rw[ah,ag,af]
 have aa:=hyd z3;have ar:=hyd5 s2 s3 s1 B3 N3;have bi:¬(96:Int)<=n:=by omega
 rw[HW.out]at c0;clear hN af ag ah z1 z2 z3 s1 s2 s3 B3 N3 eh;go_enter Tryz.func219,Tryz.ntmps219;go_wp2_with fail;rw[<-HW.out];rw[<-HW.out]at c0;clear HW;refine wp_region_any (by kernel_rfl) ?_;change wpAny _ _ _ _ 11 _ _ o.drew;refine wpAny_take (i:=0) (oi:=?o0) (v:=?v0) ?hi0 ?hs0 ?hf0 ?hr0 ?hQ0 (Or.inl ⟨?hw0,?hy0⟩) ?rest0
 case hi0=>simp only[List.getElem?_toArray,List.getElem?_cons_zero];rfl
 case hs0=>kernel_rfl
 case hf0=>kernel_rfl
 case hr0=>kernel_rfl
 case hQ0=>exact λ_ _ _ h=>h
 case hw0=>rfl
 case hy0=>intro w';go_simp;first|done|with_reducible rfl
 (try simp only[psm])
 refine wpAny_take (i:=1) (oi:=?o1) (v:=?v1) ?hi1 ?hs1 ?hf1 ?hr1 ?hQ1 (Or.inl ⟨?hw1,?hy1⟩) ?rest1
 case hi1=>simp only[gel];rfl
 case hs1=>kernel_rfl
 case hf1=>kernel_rfl
 case hr1=>kernel_rfl
 case hQ1=>exact λ_ _ _ h=>h
 case hw1=>rfl
 case hy1=>intro w';go_simp;first|done|with_reducible rfl
 (try simp only[psm])
 refine wpAny_take (i:=2) (oi:=?o2) (v:=?v2) ?hi2 ?hs2 ?hf2 ?hr2 ?hQ2 (Or.inl ⟨?hw2,?hy2⟩) ?rest2
 case hi2=>simp only[gel];rfl
 case hs2=>kernel_rfl
 case hf2=>kernel_rfl
 case hr2=>kernel_rfl
 case hQ2=>exact λ_ _ _ h=>h
 case hw2=>rfl
 case hy2=>intro w';go_simp;first|done|with_reducible rfl
 (try simp only[psm])
 refine wpAny_take (i:=3) (oi:=?o3) (v:=?v3) ?hi3 ?hs3 ?hf3 ?hr3 ?hQ3 (Or.inl ⟨?hw3,?hy3⟩) ?rest3
 case hi3=>simp only[gel];rfl
 case hs3=>kernel_rfl
 case hf3=>kernel_rfl
 case hr3=>kernel_rfl
 case hQ3=>exact λ_ _ _ h=>h
 case hw3=>rfl
 case hy3=>intro w';go_simp;first|done|with_reducible rfl
 (try simp only[psm])
 obtain⟨R,z⟩:=nam (o.drew.alloc (.cells (bl f 256).toArray 251));have V:R.rangeAt o.drew.heap.size 0 (bl f 256):=by rw[z];exact(TC.boxed o.drew (bl f 256) 251).range
 have x4:Below o.heap.size o R:=by rw[z];exact(Below.refl o.heap.size o).drew.trans (show Below o.heap.size o.drew _ from box_bel o.drew _)
 have q4:=c0;have be:R.cell? ⟨nb,0,none⟩=some (.slice ad n cap):=by rw[<-aE.out];exact((ar.out.2.2.2.2.below x4).c 0 _ rfl).1
 refine q3d (fuel:=4) 4 5 6 (o4:=?o4) (o5:=?o5) (o6:=?o6) (v4:=.slice ad n cap) (v5:=.agg (bl f 256).toArray) (v6:=.slice (some ⟨o.drew.heap.size,0,none⟩) 1 1) (L:=#[true,true,true,true,true,true,true,false,false,false,false]) (A:=?A) (w':=R)
  ?h4 ?h5 ?h6 ?g4 ?g5 ?g6 ?r0 ?r1 ?r2 ?r3 ?r4 ?r5 ?x4 ?y4 ?z4 ?x5 ?y5 ?x6 ?y6 ?z6 ?l1 ?l2 ?l3 ?f1 ?f2 ?f3 ?fin
 case h4=>simp only[gel];rfl
 case h5=>simp only[gel];rfl
 case h6=>simp only[gel];rfl
 case g4=>rfl
 case g5=>rfl
 case g6=>rfl
 case r0=>kernel_rfl
 case r1=>kernel_rfl
 case r2=>kernel_rfl
 case r3=>kernel_rfl
 case r4=>kernel_rfl
 case r5=>kernel_rfl
 case x4=>go_simp
 case y4=>simp only[psm];go_simp
 case z4=>clear z;simp only[psm];go_simp
 case x5=>exact q0O 251 _ rfl w.heap.size 0 rfl (bl f 256) _ (λj v hv=>az j v hv) Tryz.underlying251 rfl (by rw[q0c];exact q4M)
 case y5=>exact q0O 251 _ rfl w.heap.size 0 rfl (bl f 256) _ (λj v hv=>az j v hv) Tryz.underlying251 rfl (by rw[q0c];exact q4M)
 case x6=>rw[z];exact q2R _ rfl f rfl
 case y6=>rw[z];exact q2R _ rfl f rfl
 case z6=>rw[z];exact q2R _ rfl f rfl
 case l1=>kernel_rfl
 case l2=>kernel_rfl
 case l3=>kernel_rfl
 case f1=>simp only[psm];rfl
 case f2=>simp only[psm]
 case f3=>simp only[psm]
 refine q1u 7 rfl (by kernel_rfl) ?_;simp only[List.drop_succ_cons,List.drop_zero];obtain⟨D,hD⟩:=nam o.drew.heap.size;rw[<-hD]at V ⊢;have HD:Hid (D=w.heap.size+3):=by show _=_;rw[hD];exact aa.out
 obtain⟨g2,g3,g1,gB,gN⟩:=ar.out;have l:PC base vh vb nb n hs bh n F f (λ_=>false) w R:=by
  have N4:=gN.below x4;have a6:=HN.out.h.blk;have a7:=HN.out.b.blk;exact⟨N4.c,N4.h,N4.b,N4.ne,g1.block (x4.block _ g1.ltB),g2.block (x4.block _ g2.ltB),g3.block (x4.block _ g3.ltB),(gB.mono (by omega)).trans (x4.mono (by have:=gB.size;omega)),λk a=>Or.inl (a6 k a).2,λk a=>Or.inl (a7 k a).2⟩
 have aL:base<=R.heap.size:=by have:=l.bw.size;omega
 have aS:R.heap.size=w.heap.size+4:=by
  rw[z];have:=aa.out;show(o.drew.alloc _).heap.size=_;simp[this]
 have aG:=hyd aS;have aU:Hid (∀k,k<w.heap.size->R.heap[k]?=w.heap[k]?):=λk a=>by rw[x4.block k (by have:=aa.out;omega)];exact gB.block k a
 have aX:=hyd l;have aJ:=l.oh;clear c0 a4 az x4 q4 be z hD g1 g2 g3 gB gN ar aa l aS;refine q3c (by rfl) _ _ (by rfl) base vh (mkL n hs) (by rw[aE.out];rfl) aJ (by rw[q0V];omega) D f (by rfl) V aL _ rfl ?_;rw[q0V];intro g s w5 ac x G bj;have l:=aX.out;have aM:g<w.heap.size\/w.heap.size+3<=g:=by
  rcases G with h|h
  ·exact l.nh g h
  have:=aG.out;omega
 have ao:vb.ownBlock≠some g:=by
  rcases G with h|h
  ·exact l.ne g h
  intro e;have:=(l.ob.blk g e).2;omega
 have T:=(ac.blk g rfl).1;have J:∀k,k<R.heap.size->vh.ownBlock≠some k->w5.heap[k]?=R.heap[k]?:=λk a ay=>x.block k a (λe=>ay e.symm)
 have d:=l.ct.block (J nb l.ct.lt (λe=>by have:=(l.oh.blk nb e).1;omega));obtain⟨cx,a5⟩:=d 0 _ rfl;have K5:=d.set 0 (by simp) (.slice (some ⟨g,0,none⟩) (n+1) s);obtain⟨B,N⟩:=nam (w5.setCell ⟨nb,0,none⟩ (.slice (some ⟨g,0,none⟩) (n+1) s));rw[<-N]at K5;have C:∀k,k≠nb->B.heap[k]?=w5.heap[k]?:=λk a=>by rw[N];exact Below.heap_setCell w5 ⟨nb,0,none⟩ _ k (λe=>a e)
 have a9:=x.size;have aA:=aG.out;have ak:mkL n hs++[f]=mkL (n+1) (λp=>if p=n then f else hs p):=by
  rw[q8J];congr 1
  ·exact List.map_congr_left (λp hp=>by
     have:p<n:=by simpa using hp
     rw[if_neg (by omega)])
  simp
 rw[ak]at ac;have I:∀k,w.heap.size<=k->k<w.heap.size+3->vh.ownBlock≠some k:=λk h1 h2 e=>by have:=l.nh k e;omega
 have r:PC base (.slice (some ⟨g,0,none⟩) (n+1) s) vb nb (n+1) (λp=>if p=n then f else hs p) bh n F f (λ_=>false) w B:=by
  have B5:Below nb w w5:=l.bw.grown x (by have:=l.bw.size;omega) (λq hq=>by have:=(l.oh.blk q hq).1;omega);refine⟨K5,ac.keep (λk a=>C k (by cases a;show g≠nb;omega)),(l.ob.keep (λk a=>J k (l.ob.blk k a).2 (λe=>l.ne k e a))).keep (λk a=>C k (λe=>by have:=(l.ob.blk k a).1;omega)),λk a=>by cases a;exact ao,?_,?_,?_,?_,λk a=>by cases a;exact aM,l.nv⟩
  ·exact(l.st.block (J _ (by omega) (I _ (by omega) (by omega)))).block (C _ (by omega))
  ·exact(l.zt.block (J _ (by omega) (I _ (by omega) (by omega)))).block (C _ (by omega))
  ·exact(l.ot.block (J _ (by omega) (I _ (by omega) (by omega)))).block (C _ (by omega))
  rw[N];exact B5.setCell (p:=⟨nb,0,none⟩) (Nat.le_refl _) _
 have aV:Hid (∀k,k<w.heap.size->k≠nb->vh.ownBlock≠some k->B.heap[k]?=w.heap[k]?):=λk h1 h2 h3=>by
  rw[C k h2,J k (by omega) h3];exact aU.out k h1
 have HG:Hid (vh.ownBlock=some g\/w.heap.size<=g):=by
  rcases G with h|h
  ·exact Or.inl h
  exact Or.inr (by omega)
 have aY:=hyd r;have aZ:=hyd N;obtain⟨aI,am,eb,_⟩:=r.ob.at_;rw[q0V]at eb;have a1:=hyd eb;have d1:B.cell? ⟨nb,1,none⟩=some (.slice aI n am):=by rw[<-eb];exact(r.ct 1 _ rfl).1
 have e1:w5.cell? ⟨nb,1,none⟩=some (.slice aI n am):=by rw[<-eb];exact(d 1 _ rfl).1
 have bb:B.heap.size=w5.heap.size:=by rw[N];simp[World.setCell]
 obtain⟨W7,ai⟩:=nam (B.alloc (.cells (bl (λ_=>false) 104).toArray 135));have x7:Below B.heap.size B W7:=by rw[ai];exact box_bel _ _
 have X:W7.rangeAt B.heap.size 0 (bl (λ_=>false) 104):=by rw[ai];exact(TC.boxed B _ _).range
 have aK:=r.ob.below x7;have an:base<=W7.heap.size:=by have:=x7.size;omega
 have aD:=hyd ai;have a2:=hyd x7;have a3:Hid (w.heap.size+4<=B.heap.size/\w.heap.size+4=R.heap.size):=⟨by omega,by omega⟩;have au:Hid (base<=g/\g<B.heap.size):=⟨T,by omega⟩;clear l aM G T J d K5 C a9 aA ak I r eb N ai x7 aJ ao V aL bb;clear ac x;go_wp2_with (first|(with_reducible show wpList _ _ _ (⟨_,Op.build 135 _,_,_,_,_⟩::_) _ _;rw[<-aZ.out];refine q1A rfl rfl ?_;refine Stop.out ?_));refine⟨?_⟩
 (try simp only[psm])
 refine q4l rfl _ rfl (λ_=>false) rfl ?_;rw[<-aD.out]
 (try simp only[psm])
 refine q1j (by rfl) _ _ (by rfl) base vb (mkL n bh) (by rw[a1.out];rfl) aK (by rw[q0V];omega) B.heap.size (λ_=>false) (by rfl) X an _ rfl ?_;rw[q0V];intro K t Z ae m H aO
 (try simp only[psm])
 have r:=aY.out;have aA:=a3.out;have al:=a2.out;have ax:=au.out;have J:∀k,k<B.heap.size->vb.ownBlock≠some k->Z.heap[k]?=B.heap[k]?:=λk a ay=>by
  rw[m.block k (by have:=al.size;omega) (λe=>ay e.symm)];exact al.block k a
 have bc:W7.heap.size=B.heap.size+1:=by rw[aD.out];simp
 have a8:=(ae.blk K rfl).1;have aN:K<w.heap.size\/w.heap.size+3<=K:=by
  rcases H with h|h
  ·exact r.nv K h
  omega
 have d:=r.ct.block (J nb r.ct.lt (λe=>by have:=(r.ob.blk nb e).1;omega));obtain⟨cx,a5⟩:=d 1 _ rfl;have K9:=d.set 1 (by simp) (.slice (some ⟨K,0,none⟩) (n+1) t);have Y:∀k,w.heap.size<=k->k<w.heap.size+3->vb.ownBlock≠some k:=λk h1 h2 e=>by have:=r.nv k e;omega
 have T2:=r.ot.block (J _ (by omega) (Y _ (by omega) (by omega)));have T1:=r.zt.block (J _ (by omega) (Y _ (by omega) (by omega)));have aP:nb≠w.heap.size+2:=by omega
 obtain⟨u1,bn⟩:=T2 (1+n) _ (q0x _ (by omega));obtain⟨u2,bo⟩:=T2 (97+n) _ (q0x _ (by omega));obtain⟨W9,O⟩:=nam (Z.setCell ⟨nb,1,none⟩ (.slice (some ⟨K,0,none⟩) (n+1) t));rw[<-O]at K9;have aj:∀k,k≠nb->W9.heap[k]?=Z.heap[k]?:=λk a=>by rw[O];exact Below.heap_setCell Z ⟨nb,1,none⟩ _ k (λe=>a e)
 have V2:=T2.block (aj (w.heap.size+2) (by omega));have V1:=T1.block (aj (w.heap.size+1) (by omega));have av:=V2.set (1+n) (by rw[q0c];omega) (.bool true);rw[q2O]at av;have Q:=av.set (97+n) (by rw[q0c];omega) (.bool true);rw[q2O,q0o (g:=rnP n) (λi _=>by
  unfold rnP;by_cases e1:i=97+n
  ·simp[e1]
  by_cases e2:i=1+n
  ·simp[e2]
  simp[e1,e2])]at Q
 obtain⟨y,u⟩:∃W,W=(W9.setCell ⟨w.heap.size+2,1+n,none⟩ (.bool true)).setCell ⟨w.heap.size+2,97+n,none⟩ (.bool true):=⟨_,rfl⟩;rw[<-u]at Q;have E:∀k,k≠w.heap.size+2->y.heap[k]?=W9.heap[k]?:=λk a=>by
  rw[u,Below.heap_setCell _ ⟨w.heap.size+2,97+n,none⟩ _ k (λe=>a e),Below.heap_setCell _ ⟨w.heap.size+2,1+n,none⟩ _ k (λe=>a e)]
 have aH:=V1.block (E (w.heap.size+1) (by omega));obtain⟨M,hM⟩:∃M,M=bl (rnP n) 193:=⟨_,rfl⟩;rw[<-hM]at Q;have ab:M.length=193:=by rw[hM];exact q0c _ _
 have rM:=Q.range;have tz:=q0I aH;have S:=q0e (w.heap.size+1) M 0 y;have aQ:=World.rangeAt_setCells_same y (w.heap.size+1) 0 M (by rw[ab];exact tz);have U:=run_loadVar_mid (P:=Tryz.prog) (y.setCells (w.heap.size+1) 0 M) (w.heap.size+1) 0 247 M _ aQ Tryz.underlying247 rfl (by rw[ab];exact q0h);obtain⟨WX,aw⟩:∃W,W=y.setCells (w.heap.size+1) 0 M:=⟨_,rfl⟩;rw[<-aw]at S U;have bd:=m.size;have aT:W9.heap.size=Z.heap.size:=by rw[O];simp[World.setCell]
 have aR:y.heap.size=Z.heap.size:=by rw[u];simp[World.setCell,aT]
 have kx:∀k,k<Z.heap.size->k≠w.heap.size+1->k≠w.heap.size+2->k≠nb->WX.heap[k]?=Z.heap[k]?:=λk h0 h1 h2 h3=>by
  rw[S.block k (by omega) (λe=>h1 (Option.some.inj e)),E k h2,aj k h3]
 have ap:∀k,(Value.slice (some ⟨g,0,none⟩) (n+1) s).ownBlock=some k->(Value.slice (some ⟨K,0,none⟩) (n+1) t).ownBlock≠some k:=λk a e=>by
  cases a;have e2:K=g:=Option.some.inj e;rcases H with h|h
  ·rw[e2]at h;exact r.ne g rfl h
  have:=ax.2;omega
 have NX:NetIn nb base (.slice (some ⟨g,0,none⟩) (n+1) s) (.slice (some ⟨K,0,none⟩) (n+1) t) (n+1) (λp=>if p=n then f else hs p) (λp=>if p=n then (λ_=>false) else bh p) F WX:=by
  have ak:mkL n bh++[λ_=>false]=mkL (n+1) (λp=>if p=n then (λ_=>false) else bh p):=by
   rw[q8J];congr 1
   ·exact List.map_congr_left (λp hp=>by
      have:p<n:=by simpa using hp
      rw[if_neg (by omega)])
   simp
  rw[ak]at ae;have bf:=r.nh g rfl;refine⟨(K9.block (E nb aP)).block (S.block nb (by omega) (λe=>by have:=Option.some.inj e;omega)),r.oh.keep (λk a=>?_),ae.keep (λk a=>?_),ap⟩
  ·cases a;rw[kx g (by omega) (by omega) (by omega) (by omega)];exact J g ax.2 (λe=>r.ne g rfl e)
  cases a;exact kx K (by have:=aO;omega) (by omega) (by omega) (by omega)
 have FX:NF nb vh vb (.slice (some ⟨g,0,none⟩) (n+1) s) (.slice (some ⟨K,0,none⟩) (n+1) t) w WX:=by
  have B6:=r.bw;have B7:Below nb w W7:=B6.trans (al.mono (by omega));have B8:Below nb w Z:=B7.grown m (by have:=B7.size;omega) (λq hq=>by have:=(r.ob.blk q hq).1;omega);have B9:Below nb w W9:=by rw[O];exact B8.setCell (p:=⟨nb,1,none⟩) (Nat.le_refl _) _
  have aB:Below nb w y:=by
   rw[u];exact(B9.setCell (p:=⟨w.heap.size+2,1+n,none⟩) (by show nb<=w.heap.size+2;omega) _).setCell (p:=⟨w.heap.size+2,97+n,none⟩) (by show nb<=w.heap.size+2;omega) _
  refine⟨aB.grown S (by have:=aB.size;omega) (λq hq=>by cases hq;omega),λk h1 h2 h3 h4=>?_,λk a=>?_,λk a=>?_⟩
  ·rw[kx k (by omega) (by omega) (by omega) h2,J k (by omega) h4];exact aV.out k h1 h2 h3
  ·cases a;exact HG.out
  cases a;rcases H with h|h
  ·exact Or.inl h
  exact Or.inr (by show w.heap.size<=K;omega)
 have a0:=hyd aw;have aC:Hid (y=((Z.setCell ⟨nb,1,none⟩ (.slice (some ⟨K,0,none⟩) (n+1) t)).setCell ⟨w.heap.size+2,1+n,none⟩ (.bool true)).setCell ⟨w.heap.size+2,97+n,none⟩ (.bool true)):=by show _=_;rw[u,O]
 have aF:=hyd U;have aq:=hyd ab;have aW:Hid (M.toArray.all (·.oneCell')=true):=by show _=true;rw[hM];exact q0w _ _
 have HM:=hyd hM;clear r aA al ax J bc a8 aN d K9 Y T2 T1 O aj V2 V1 av Q u E aH hM ab S aQ U aw bd aT aR kx ap ae m H aO X an aK e1 d1;go_wp2_with (first|(with_reducible refine gld 247 ?_;rw[show w.heap.size+1+1=w.heap.size+2 from rfl,<-aC.out];refine wpList_load_mid rfl 247 _ rfl (w.heap.size+2) 0 rfl M _ rM Tryz.underlying247 rfl (by rw[aq.out];exact q0h) ?_)|(with_reducible refine gst 247 ?_;refine wpList_store_mid rfl 247 _ _ rfl (w.heap.size+1) 0 M.toArray rfl rfl (by simpa[aq.out]using tz) (by simpa[aq.out]using q0h) aW.out ?_;rw[List.toList_toArray,<-a0.out]));refine bodyPost_ret (v:=.agg M.toArray) (res_load1 Tryz.results219 rfl aF.out) rfl ?_;exact⟨_,_,by rw[HM.out],NX,FX⟩
theorem q4L:∃i,Tryz.prog.info? 78=some i/\i.zero=some (.slice none 0 0)/\i.size=1/\i.bytes=24:=by
 have b:(Tryz.prog.info? 78).isSome=true:=by kernel_rfl
 obtain⟨i,a⟩:=Option.isSome_iff_exists.1 b;refine⟨i,a,?_,?_,?_⟩
 ·have:((Tryz.prog.info? 78).bind (·.zero))=some (.slice none 0 0):=by kernel_rfl
  rw[a]at this;exact this
 ·have:((Tryz.prog.info? 78).map (·.size))=some 1:=by kernel_rfl
  rw[a]at this;simpa using this
 have:((Tryz.prog.info? 78).map (·.bytes))=some 24:=by kernel_rfl
 rw[a]at this;simpa using this
def nilL (n:Nat):List Value:=(List.range n).map λ_=>.slice none 0 0
theorem q9h (w:World) (n:Nat) (hn:n<=1000000):(Instr.makeSlice 74 (.int .i64 (n:Int)) (.int .i64 (n:Int))).run Tryz.prog w=.ok (.slice (some ⟨w.heap.size,0,none⟩) n n) (w.alloc (.cells (nilL n).toArray 78)):=by
 obtain⟨i,b,c,hs,a⟩:=q4L;have h:=run_make (P:=Tryz.prog) w 74 78 i (.slice none 0 0) Tryz.underlying74 b c .i64 .i64 n n (by omega) (by omega) (by rw[a];omega) (by omega);rw[hs]at h;simp only[Int.toNat_natCast,Nat.mul_one]at h;rw[show(Value.slice none 0 0).cells=#[.slice none 0 0] from rfl,q3n]at h;exact h
def t0 (N:Nat) (vd:Nat->Int) (i j:Nat):Bool:=ofR N vd i != ofR N vd j
theorem TBO.first (w:World) (N:Nat) (ty:TypeId) (t:Nat->Nat->Bool):TBO w.heap.size w.heap.size N (λ_=>0) t 0 (w.alloc (.cells (nilL (N+1)).toArray ty)):=by
 have T:=TC.boxed w (nilL (N+1)) ty;have e:∀i,i<N+1->(nilL (N+1))[i]?=some (.slice none 0 0):=λi a=>by simp[nilL,a]
 exact⟨λi a=>by omega,λi _ a=>(T i _ (e i a)).1,λi a=>(T i _ (e i a)).2,λi a=>by omega,λi j a=>by omega,λi a=>by omega⟩
def rwT (N:Nat) (vd:Nat->Int) (i k a b:Nat):Bool:=if a=i then decide (b<k)&&t0 N vd i b else t0 N vd a b
inductive Apt (N:Nat) (vd:Nat->Int) (nx:Nat->Nat->Int) (bs:List Nat):Nat->Nat->Prop
 |base {i j:Nat} (hi:i<=N) (hj:j<=N) (h:t0 N vd i j=true):Apt N vd nx bs i j
 |step {i j b:Nat} (hi:i<=N) (hj:j<=N) (hb:b∈bs) (h:Apt N vd nx bs (toR N nx i b) (toR N nx j b)):Apt N vd nx bs i j
structure AptT (N:Nat) (vd:Nat->Int) (nx:Nat->Nat->Int) (bs:List Nat) (t:Nat->Nat->Bool):Prop where
 sub:∀i j,i<=N->j<=N->t i j=true->Apt N vd nx bs i j
 sym:∀i j,i<=N->j<=N->t i j=t j i
 irr:∀i,i<=N->t i i=false
 base:∀i j,i<=N->j<=N->t0 N vd i j=true->t i j=true
theorem AptT.first (N:Nat) (vd:Nat->Int) (nx:Nat->Nat->Int) (bs:List Nat):AptT N vd nx bs (t0 N vd):=
 ⟨λ_ _ a b h=>.base a b h,λi j _ _=>by simp only[t0];exact bne_comm,λi _=>by simp[t0],λ_ _ _ _ h=>h⟩
def sym2 (t:Nat->Nat->Bool) (i j:Nat):Nat->Nat->Bool:=upT (upT t i j true) j i true
theorem q2Q (t:Nat->Nat->Bool) (i j a b:Nat):sym2 t i j a b=(decide (a=i/\b=j) || decide (a=j/\b=i) || t a b):=by
 unfold sym2 upT;by_cases c:a=j/\b=i
 ·simp[c]
 by_cases d:a=i/\b=j
 ·simp[d]
 simp[c,d]
theorem AptT.put (h:AptT N vd nx bs t) {i j:Nat} (hi:i<=N) (hj:j<=N) (hne:i≠j) (hbs:∀b∈bs,b<256) (hnx:∀i b,i<N->b<256->nx i b<N) (hp:partR N nx bs t i j bs.length=true):AptT N vd nx bs (sym2 t i j):=by
 unfold partR at hp;rw[List.take_length,List.any_eq_true]at hp;obtain⟨b,k,hp⟩:=hp;have l:=q6M (λh=>hnx i b h (hbs b k)) hi;have m:=q6M (λh=>hnx j b h (hbs b k)) hj;refine⟨λa c ha d g=>?_,λa c ha d=>?_,λa ha=>?_,λa c ha d g=>?_⟩
 ·rw[q2Q]at g;by_cases n:a=i/\c=j
  ·obtain⟨rfl,rfl⟩:=n;exact .step ha d k (h.sub _ _ l m hp)
  by_cases e2:a=j/\c=i
  ·obtain⟨rfl,rfl⟩:=e2;exact .step ha d k (h.sub _ _ m l (by rw[h.sym _ _ m l];exact hp))
  simp only[n,e2,decide_false,Bool.false_or]at g;exact h.sub a c ha d g
 ·rw[q2Q,q2Q,h.sym a c ha d];congr 1;rw[Bool.or_comm];congr 1
  ·simp[and_comm]
  simp[and_comm]
 ·rw[q2Q,h.irr a ha];have o:¬(a=i/\a=j):=λ⟨e,f⟩=>hne (e▸f)
  have p:¬(a=j/\a=i):=λ⟨e,f⟩=>hne (f▸e)
  simp only[o,p,decide_false,Bool.or_false]
 rw[q2Q,h.base a c ha d g,Bool.or_true]
theorem y0O {α:Type}{L:List α}{f g:α->Bool} (h:∀p∈L,f p=true->g p=true) {q:α} (hq:q∈L) (h1:g q=true) (h2:f q=false):L.countP f<L.countP g:=by
 induction L with
 |nil=>cases hq
 |cons x L ih=>
  rw[List.countP_cons,List.countP_cons];have b:L.countP f<=L.countP g:=List.countP_mono_left (λp a=>h p (by simp[a]));rcases List.mem_cons.1 hq with rfl|hq
  ·rw[h1,h2];simp;omega
  have:=ih (λp a=>h p (by simp[a])) hq;have c:=h x (by simp);cases hf:f x<;>cases hg:g x<;>simp_all<;>omega
def prs (N:Nat):List (Nat × Nat):=(List.range (N+1)).flatMap λi=>(List.range (N+1)).map λj=>(i,j)
theorem y0i:(i,j)∈prs N<->i<=N/\j<=N:=by
 simp[prs];omega
def opT (N:Nat) (t:Nat->Nat->Bool):Nat:=(prs N).countP λp=>!t p.1 p.2
def isF:Option Value->Bool
 |some (.bool false)=>true
 |_=>false
def opn (N:Nat) (rk:Nat->Nat) (w:World):Nat:=(prs N).countP λp=>isF (w.cell? ⟨rk p.1,p.2,none⟩)
theorem TBO.opn {base tb N:Nat}{rk:Nat->Nat}{t:Nat->Nat->Bool}{w:World} (h:TBO base tb N rk t (N+1) w):opn N rk w=opT N t:=by
 unfold Go.Proofs.YtoaaklhpmhjhkaaGreat.opn opT;refine List.countP_congr (λp a=>?_);obtain⟨i,j⟩:=p;have b:=y0i.1 a;rw[(h.r i (by omega) j _ (q0x _ (by omega))).1];cases t i j<;>simp[isF]
theorem y3v (hi:i<=N) (hj:j<=N) (h:t i j=false):opT N (sym2 t i j)<opT N t:=by
 refine y0O (q:=(i,j)) (λp b a=>?_) (y0i.2 ⟨hi,hj⟩) (by simp[h]) (by simp[q2Q]);rw[q2Q]at a
 revert a
 cases t p.1 p.2<;>simp
def boolOf:Value->Nat
 |.bool true=>1
 |_=>0
def Clo (N:Nat) (nx:Nat->Nat->Int) (bs:List Nat) (t:Nat->Nat->Bool) (i j:Nat):Prop:=∀a b,b<a->a<=N->(a<i\/(a=i/\b<j))->t a b=false->partR N nx bs t a b bs.length=false
theorem y1a (pb N:Nat) (vd:Nat->Int) (nx:Nat->Nat->Int) (bs:List Nat) (w:World) (hN:N<=200) (hP:PLN pb N vd nx bs w) (hbs:∀(k b:Nat),bs[k]?=some b->b<256) (hl:bs.length<=256) (hnx:∀i b,i<N->b<256->nx i b<N):
  Calls Tryz.prog 29 #[.pointer (some ⟨pb,0,none⟩)] w λe w'=>∃rk t,e=.returned (.slice (some ⟨w.heap.size,0,none⟩) (N+1) (N+1))/\TBO w.heap.size w.heap.size N rk t (N+1) w'/\Below w.heap.size w w'/\AptT N vd nx bs t/\Clo N nx bs t (N+1) 0:=by
 have HP:Hid (∀w',Below w.heap.size w w'->PLN pb N vd nx bs w'):=λw' h=>hP.below h
 have Z:Hid (∀(w':World) (i:Nat),Below w.heap.size w w'->i<=N->Calls Tryz.prog 60 #[.pointer (some ⟨pb,0,none⟩),.int .i64 i] w' λe w''=>e=.returned (.int .i64 (ofR N vd i))/\w''=w'):=λw' i h hi=>y1s pb N vd nx bs i w' (by omega) (hP.below h) hi
 have am:Hid (∀(w':World) (t:Nat->Nat->Bool) (i j:Nat),Below w.heap.size w w'->TB (some ⟨w.heap.size,0,none⟩) N t w'->i<=N->j<=N->Calls Tryz.prog 61 #[.pointer (some ⟨pb,0,none⟩),.slice (some ⟨w.heap.size,0,none⟩) (N+1) (N+1),.int .i64 i,.int .i64 j] w' λe w''=>e=.returned (.bool (partR N nx bs t i j bs.length))/\w''=w'):=λw' t i j h hT h1 h2=>y0m pb N vd nx bs _ _ t i j w' (by omega) (hP.below h) hT h1 h2 hbs hl hnx
 have ap:Hid (∀b∈bs,b<256):=λb hb=>by
  obtain⟨k,hk,e⟩:=List.getElem_of_mem hb;exact hbs k b (by rw[List.getElem?_eq_getElem hk,e])
 have aq:=hyd hnx;clear hbs hnx hl;obtain⟨va,vc,c0,_⟩:=hP.v;have ay:(N:Int)<=200:=by omega
 have J:(Instr.makeSlice 74 (.int .i64 ((N:Int)+1)) (.int .i64 ((N:Int)+1))).run Tryz.prog w=.ok (.slice (some ⟨w.heap.size,0,none⟩) (N+1) (N+1)) (w.alloc (.cells (nilL (N+1)).toArray 78)):=q9h w (N+1) (by omega);obtain⟨W1,H⟩:=nam (w.alloc (.cells (nilL (N+1)).toArray 78));rw[<-H]at J;have B1:Below w.heap.size w W1:=by rw[H];exact box_bel _ _
 have O1:TBO w.heap.size w.heap.size N (λ_=>0) (t0 N vd) 0 W1:=by rw[H];exact TBO.first w N _ _
 have s1:w.heap.size+1<=W1.heap.size:=by rw[H];simp
 clear H hP;go_enter Tryz.func29,Tryz.ntmps29;go_wp2_with fail
 go_loopw [5] (λx w'=>∃(i:Nat) (rk:Nat->Nat),i<=N+1/\x=.int .i64 i/\TBO w.heap.size w.heap.size N rk (t0 N vd) i w'/\Below w.heap.size w w'/\w.heap.size+1<=w'.heap.size) (λx _=>N+1-(intOf x).toNat)
 ·exact⟨0,_,by omega,rfl,O1,B1,s1⟩
 clear O1 B1 s1 J c0;obtain⟨i,rk,hi,rfl,O,B,sz⟩:=hrel;by_cases av:i<=N
 ·have aw:(i:Int)<=N:=by omega
  have J:(Instr.makeSlice 78 (.int .i64 ((N:Int)+1)) (.int .i64 ((N:Int)+1))).run Tryz.prog wr=.ok (.slice (some ⟨wr.heap.size,0,none⟩) (N+1) (N+1)) (wr.alloc (.cells (bl (λ_=>false) (N+1)).toArray 4)):=q5i wr (N+1) (by omega);have P:=O.row (by omega) (by omega) (by omega) 4;obtain⟨W2,q⟩:=nam (wr.alloc (.cells (bl (λ_=>false) (N+1)).toArray 4));rw[<-q]at J P;have x2:Below wr.heap.size wr W2:=by rw[q];exact box_bel _ _
  have cz:W2.cell? ⟨w.heap.size,i,none⟩=some (.slice none 0 0):=by rw[x2.cell (p:=⟨w.heap.size,i,none⟩) (by show w.heap.size<wr.heap.size;omega)];exact O.z i (Nat.le_refl _) (by omega)
  have fz:W2.frozen? ⟨w.heap.size,i,none⟩=false:=by rw[World.frozen?_of_block (w:=wr) (a:=⟨w.heap.size,i,none⟩) (x2.block _ (by show w.heap.size<wr.heap.size;omega))];exact O.f i (by omega)
  obtain⟨W3,I⟩:=nam (W2.setCell ⟨w.heap.size,i,none⟩ (.slice (some ⟨wr.heap.size,0,none⟩) (N+1) (N+1)));rw[<-I]at P;have B3:Below w.heap.size w W3:=by rw[I];exact(B.trans (x2.mono (by omega))).setCell (p:=⟨w.heap.size,i,none⟩) (Nat.le_refl _) _
  have s3:w.heap.size+1<=W3.heap.size:=by rw[I];have:=x2.size;simp;omega
  have O3:=P.congr (t':=rwT N vd i 0) (λa b _ _=>by simp[rwT]);obtain⟨s,L⟩:∃s:Nat->Nat,s=λa=>if a=i then wr.heap.size else rk a:=⟨_,rfl⟩
  rw[<-L]at O3;have al:s i=wr.heap.size:=by rw[L];simp
  have ax:=hyd al;have ag:=hyd I;clear O P q I L al x2 B sz;go_wp2_with fail;rw[<-ag.out];clear ag cz fz J
  go_loopw [6] (λx w'=>∃k:Nat,k<=N+1/\x=.int .i64 k/\TBO w.heap.size w.heap.size N s (rwT N vd i k) (i+1) w'/\Below w.heap.size w w'/\w.heap.size+1<=w'.heap.size) (λx _=>N+1-(intOf x).toNat)
  ·exact⟨0,by omega,rfl,O3,B3,s3⟩
  clear O3 B3 s3;obtain⟨k,hk,rfl,O,B,sz⟩:=hrel;by_cases au:k<=N
  ·have⟨hkl',hi1⟩:(k:Int)<=N/\(i:Int)<N+1:=by omega
   have aA:(k:Int)<N+1:=by omega
   have ct:=O.c i (by omega);obtain⟨cr,fr⟩:=O.r i (by omega) k _ (q0x _ (by omega));obtain⟨R,T⟩:=nam (s i);rw[<-T]at ct cr fr;have P:=O.set (i:=i) (j:=k) (by omega) (by omega) (t0 N vd i k);have O3:=P.congr (t':=rwT N vd i (k+1)) (λa b _ _=>by
    simp only[upT,rwT];by_cases e1:a=i
    ·by_cases e2:b=k
     ·simp[e1,e2]
     have:decide (b<k+1)=decide (b<k):=by simp;omega
     simp[e1,e2,this]
    simp[e1])
   rw[<-T]at O3;have an:=hyd (Z.out wr.drew i B.drew av);have ao:=hyd (Z.out wr.drew k B.drew au);have ae:=hyd O3;have aj:w.heap.size<=R/\R≠w.heap.size:=by rw[T];have:=O.ne i (by omega);exact⟨this.2,this.1⟩
   have HB:Hid (Below w.heap.size w (wr.setCell ⟨R,k,none⟩ (.bool (t0 N vd i k)))):=B.setCell (p:=⟨R,k,none⟩) aj.1 _;have ar:(wr.setCell ⟨R,k,none⟩ (.bool (t0 N vd i k))).cell? ⟨w.heap.size,i,none⟩=some (.slice (some ⟨R,0,none⟩) (N+1) (N+1)):=by
    rw[World.cell?_setCell_far _ _ _ _ (by show R≠w.heap.size;exact aj.2)];exact ct
   clear O P O3 T B;go_wp2_with fail;have ab:=ct;refine wp_region_held_drew (S:=λw'=>w'.cell? ⟨w.heap.size,i,none⟩=some (.slice (some ⟨R,0,none⟩) (N+1) (N+1))) (by kernel_rfl) ab (λhHeld=>?_);refine wpAnyH_take (i:=0) (oi:=?oZ0) (v:=?vZ0) ?hiZ0 ?hsZ0 ?hfZ0 ?hrZ0 ?hQZ0 (Or.inl ⟨?hwZ0,?hyZ0⟩) ?hSZ0 ?restZ0
   case hiZ0=>simp only[List.getElem?_toArray,List.getElem?_cons_zero];rfl
   case hsZ0=>kernel_rfl
   case hfZ0=>kernel_rfl
   case hrZ0=>kernel_rfl
   case hQZ0=>exact λ_ _ _ h=>h
   case hSZ0=>assumption
   case hwZ0=>rfl
   case hyZ0=>intro w' d;(try dsimp only at d);go_simp;first|done|with_reducible rfl
   (try simp only[psm])
   refine wpAnyH_take (i:=1) (by simp only[gel];rfl) (by kernel_rfl) (by kernel_rfl) (by kernel_rfl) (by exact λ_ _ _ h=>h) (Or.inl ⟨by rfl,by intro w' d;(try dsimp only at d);go_simp;first|done|with_reducible rfl⟩) (by assumption) ?_
   (try simp only[psm])
   refine wpAnyH_take (i:=2) (by simp only[gel];rfl) (by kernel_rfl) (by kernel_rfl) (by kernel_rfl) (by exact λ_ _ _ h=>h) (Or.inl ⟨by rfl,by intro w' d;(try dsimp only at d);go_simp;first|done|with_reducible rfl⟩) (by assumption) ?_
   (try simp only[psm])
   refine wpAnyH_take (i:=3) (by simp only[gel];rfl) (by kernel_rfl) (by kernel_rfl) (by kernel_rfl) (by exact λ_ _ _ h=>h) (Or.inl ⟨by rfl,by intro w' d;(try dsimp only at d);go_simp;first|done|with_reducible rfl⟩) (by assumption) ?_
   (try simp only[psm])
   refine wpAnyH_take (i:=4) (by simp only[gel];rfl) (by kernel_rfl) (by kernel_rfl) (by kernel_rfl) (by exact λ_ _ _ h=>h) (Or.inl ⟨by rfl,by intro w' d;(try dsimp only at d);go_simp;first|done|with_reducible rfl⟩) (by assumption) ?_
   (try simp only[psm])
   refine wpAnyH_take (i:=5) (by simp only[gel];rfl) (by kernel_rfl) (by kernel_rfl) (by kernel_rfl) (by exact λ_ _ _ h=>h) (Or.inl ⟨by rfl,by intro w' d;(try dsimp only at d);go_simp;first|done|with_reducible rfl⟩) (by assumption) ?_
   (try simp only[psm])
   refine wpAnyH_take (i:=6) (by simp only[gel];rfl) (by kernel_rfl) (by kernel_rfl) (by kernel_rfl) (by exact λ_ _ _ h=>h) (Or.inl ⟨by rfl,by intro w' d;(try dsimp only at d);go_simp;first|done|with_reducible rfl⟩) (by assumption) ?_
   (try simp only[psm])
   refine wpAnyH_take (i:=8) (by simp only[gel];rfl) (by kernel_rfl) (by kernel_rfl) (by kernel_rfl) (by exact λ_ _ _ h=>h) (Or.inl ⟨by rfl,by intro w' d;(try dsimp only at d);go_simp;first|done|with_reducible rfl⟩) (by assumption) ?_
   (try simp only[psm])
   refine wpAnyH_take (i:=9) (by simp only[gel];rfl) (by kernel_rfl) (by kernel_rfl) (by kernel_rfl) (by exact λ_ _ _ h=>h) (Or.inl ⟨by rfl,by intro w' d;(try dsimp only at d);go_simp;first|done|with_reducible rfl⟩) (by assumption) ?_
   (try simp only[psm])
   refine wpAnyH_ready (rs:=[7]) (by kernel_rfl) (by simp) ?_;refine AllReadyH.cons (o:=?oZ7) ?hiZ7 (λK Q=>?_) AllReadyH.nil
   case hiZ7=>simp only[gel];rfl
   go_simp;refine Calls.mono an.out ?_;rintro e w1 ⟨rfl,rfl⟩;go_wp2_with fail;refine Q.out _ _ ab (λhHeld=>?_);clear Q K
   (try simp only[psm])
   refine wpAnyH_ready (rs:=[10]) (by kernel_rfl) (by simp) ?_;refine AllReadyH.cons (o:=?oZ10) ?hiZ10 (λK Q=>?_) AllReadyH.nil
   case hiZ10=>simp only[gel];rfl
   go_simp;refine Calls.mono ao.out ?_;rintro e w1 ⟨rfl,rfl⟩;go_wp2_with fail;refine Q.out _ _ ab (λhHeld=>?_);clear Q K
   (try simp only[psm])
   refine wpAnyH_take (i:=11) (by simp only[gel];rfl) (by kernel_rfl) (by kernel_rfl) (by kernel_rfl) (by exact λ_ _ _ h=>h) (Or.inl ⟨by rfl,by intro w' d;(try dsimp only at d);go_simp;first|done|with_reducible rfl⟩) (by assumption) ?_
   (try simp only[psm])
   refine wpAnyH_take (i:=12) (by simp only[gel];rfl) (by kernel_rfl) (by kernel_rfl) (by kernel_rfl) (by exact λ_ _ _ h=>h) (Or.inl ⟨by rfl,by intro w' d;(try dsimp only at d);go_simp;first|done|with_reducible rfl⟩) (by assumption) ?_
   (try simp only[psm])
   refine wpAnyH_ready (rs:=[13]) (by kernel_rfl) (by simp) ?_;refine AllReadyH.cons (o:=?oZ13) ?hiZ13 (λK Q=>?_) AllReadyH.nil
   case hiZ13=>simp only[gel];rfl
   go_simp;refine Q.out _ _ ar (λhHeld=>?_);clear Q K
   (try simp only[psm])
   refine wpAnyH_done (by kernel_rfl) ?_ _;have O4:TBO w.heap.size w.heap.size N s (rwT N vd i (k+1)) (i+1) (wr.setCell ⟨R,k,none⟩ (.bool (t0 N vd i k))).drew:=ae.out.keep rfl (λ_ _=>rfl);have B4:=HB.out.drew;have s4:w.heap.size+1<=(wr.setCell ⟨R,k,none⟩ (.bool (t0 N vd i k))).drew.heap.size:=by
    show w.heap.size+1<=(wr.setCell ⟨R,k,none⟩ (.bool (t0 N vd i k))).heap.size;simpa using sz
   clear ae HB;go_wp2_with fail
   (try simp only[Act.put])
   go_roundw
   ·exact⟨k+1,by omega,by go_num,O4,B4,s4⟩
   simp[intOf];omega
  have⟨hge,hkN⟩:¬(k:Int)<=N/\k=N+1:=by omega
  subst hkN;have O4:=O.congr (t':=t0 N vd) (λa b _ hb=>by
   simp only[rwT,hb,decide_true,Bool.true_and];by_cases e:a=i
   ·simp[e]
   simp[e])
  clear O;go_wp2_with fail;go_roundw
  ·exact⟨i+1,s,by omega,by go_num,O4,B,sz⟩
  simp[intOf];omega
 have⟨hge,hiN⟩:¬(i:Int)<=N/\i=N+1:=by omega
 subst hiN;have A0:=AptT.first N vd nx bs;clear Z;go_wp2_with fail
 go_loopw [7] (λx w'=>∃(t:Nat->Nat->Bool) (M:Bool),x=.bool M/\TBO w.heap.size w.heap.size N rk t (N+1) w'/\AptT N vd nx bs t/\(M=false->Clo N nx bs t (N+1) 0)/\Below w.heap.size w w') (λx w'=>2*opn N rk w'+boolOf x)
 ·exact⟨_,true,rfl,O,A0,(λh=>by cases h),B⟩
 clear O A0 B sz;obtain⟨t,M,rfl,O,A,G,B⟩:=hrel;cases M
 ·have u:=hyd (G rfl);clear G;go_wp2_with fail;go_ret;exact⟨rk,t,rfl,O,B,A,u.out⟩
 clear G;obtain⟨OP,ai⟩:=nam (opn N rk wr);have af:=hyd ai;clear ai;go_wp2_with fail
 go_loopw [7,8] (λm x w'=>∃(t:Nat->Nat->Bool) (M:Bool) (i:Nat),m=.bool M/\x=.int .i64 i/\i<=N+1/\TBO w.heap.size w.heap.size N rk t (N+1) w'/\AptT N vd nx bs t/\(M=false->Clo N nx bs t i 0)/\(opn N rk w'+(if M then 1 else 0)<=OP)/\Below w.heap.size w w') (λ_ x _=>N+1-(intOf x).toNat)
 ·exact⟨t,false,0,rfl,rfl,by omega,O,A,(λ_ a b _ _ h=>by omega),by rw[af.out];simp,B⟩
 clear O A B;obtain⟨t,M,i,rfl,rfl,hi,O,A,G,g,B⟩:=hrel;by_cases ac:i<=N
 ·have⟨hil',hi1⟩:(i:Int)<=N/\(i:Int)<N+1:=by omega
  have u:=hyd G;clear G;go_wp2_with fail
  go_loopw [7,9] (λm x w'=>∃(t:Nat->Nat->Bool) (M:Bool) (j:Nat),m=.bool M/\x=.int .i64 j/\j<=i/\TBO w.heap.size w.heap.size N rk t (N+1) w'/\AptT N vd nx bs t/\(M=false->Clo N nx bs t i j)/\(opn N rk w'+(if M then 1 else 0)<=OP)/\Below w.heap.size w w') (λ_ x _=>i-(intOf x).toNat)
  ·exact⟨t,M,0,rfl,rfl,by omega,O,A,u.out,g,B⟩
  clear O A B u g;obtain⟨t,M,j,rfl,rfl,hj,O,A,G,g,B⟩:=hrel;have u:=hyd G;clear G;by_cases az:j<i
  ·have⟨hjl',hj1⟩:(j:Int)<i/\(j:Int)<N+1:=by omega
   have ci:=O.c i (by omega);have cj:=O.c j (by omega);obtain⟨cr,fr⟩:=O.r i (by omega) j _ (q0x _ (by omega));obtain⟨cs,fs⟩:=O.r j (by omega) i _ (q0x _ (by omega));have C:=hyd (am.out wr t i j B O.tb ac (by omega));have P:=(O.set (i:=i) (j:=j) (by omega) (by omega) true).set (i:=j) (j:=i) (by omega) (by omega) true;have B2:Below w.heap.size w ((wr.setCell ⟨rk i,j,none⟩ (.bool true)).setCell ⟨rk j,i,none⟩ (.bool true)):=(B.setCell (p:=⟨rk i,j,none⟩) (O.ne i (by omega)).2 _).setCell (p:=⟨rk j,i,none⟩) (O.ne j (by omega)).2 _;have V:rk i≠rk j:=λe=>by have:=O.inj i j (by omega) (by omega) e;omega
   have W:rk i≠w.heap.size:=(O.ne i (by omega)).1;have D:(wr.setCell ⟨rk i,j,none⟩ (.bool true)).cell? ⟨w.heap.size,j,none⟩=some (.slice (some ⟨rk j,0,none⟩) (N+1) (N+1)):=by
    rw[World.cell?_setCell_far _ _ _ _ (by show rk i≠w.heap.size;exact W)];exact cj
   have E:(wr.setCell ⟨rk i,j,none⟩ (.bool true)).cell? ⟨rk j,i,none⟩=some (.bool (t j i)):=by
    rw[World.cell?_setCell_far _ _ _ _ (by show rk i≠rk j;exact V)];exact cs
   have F:(wr.setCell ⟨rk i,j,none⟩ (.bool true)).frozen? ⟨rk j,i,none⟩=false:=by rw[World.frozen?_setCell];exact fs
   have n:=hyd P;have U:t i j=false->opn N rk ((wr.setCell ⟨rk i,j,none⟩ (.bool true)).setCell ⟨rk j,i,none⟩ (.bool true))<opn N rk wr:=λh=>by
    rw[n.out.opn,O.opn];exact y3v ac (by omega) h
   have l:=hyd U;obtain⟨R,T⟩:=nam (rk i);obtain⟨S,hS⟩:=nam (rk j);have HR:=hyd2 T hS;rw[<-T]at ci cr fr D E F B2 n l;rw[<-hS]at cj cs fs D E F B2 n l;obtain⟨W2,q⟩:=nam (wr.setCell ⟨R,j,none⟩ (.bool true));rw[<-q]at D E F B2 n l;have aa:=hyd q;have Y:=hyd B2;clear P U T hS V W q B2 cs fs;cases hX:t i j
   ·rw[hX]at cr;cases hPp:partR N nx bs t i j bs.length
    ·rw[hPp]at C;have y:Hid (M=false->Clo N nx bs t i (j+1)):=λh a b h1 h2 h3 h4=>by
      by_cases e:a=i/\b=j
      ·obtain⟨rfl,rfl⟩:=e;exact hPp
      exact u.out h a b h1 h2 (by omega) h4
     clear u n l Y D E F aa hPp hX;go_wp2_with fail;refine C.out.mono ?_;rintro e w' ⟨rfl,rfl⟩;go_wp2_with fail;go_roundw
     ·exact⟨t,M,j+1,rfl,by go_num,by omega,O,A,y.out,g,B⟩
     simp[intOf];omega
    rw[hPp]at C;have A2:=A.put ac (show j<=N by omega) (by omega) ap.out aq.out hPp;have ak:=l.out hX;have X:opn N rk (W2.setCell ⟨S,i,none⟩ (.bool true))+1<=OP:=by omega
    have ah:=hyd X;clear u l hPp hX ak X A g;go_wp2_with fail;refine C.out.mono ?_;rintro e w' ⟨rfl,rfl⟩;go_wp2_with (first|(with_reducible show wpList _ _ _ ({ dst:=some 93,op:=Op.load _ _,type:=_,pos:=_,after:=_,guard:=_ }::_) _ _;refine Stop.out ?_));refine⟨?_⟩;rw[<-aa.out];go_wp2_with fail;go_roundw
    ·exact⟨sym2 t i j,true,j+1,rfl,by go_num,by omega,n.out,A2,(λh=>by cases h),by simpa using ah.out,Y.out⟩
    simp[intOf];omega
   rw[hX]at cr;have y:Hid (M=false->Clo N nx bs t i (j+1)):=λh a b h1 h2 h3 h4=>by
    by_cases e:a=i/\b=j
    ·obtain⟨rfl,rfl⟩:=e;rw[hX]at h4;cases h4
    exact u.out h a b h1 h2 (by omega) h4
   clear u n l Y D E F aa C hX;go_wp2_with fail;go_roundw
   ·exact⟨t,M,j+1,rfl,by go_num,by omega,O,A,y.out,g,B⟩
   simp[intOf];omega
  have⟨hge,hji⟩:¬(j:Int)<i/\j=i:=by omega
  subst hji;have y:Hid (M=false->Clo N nx bs t (j+1) 0):=λh a b h1 h2 h3 h4=>u.out h a b h1 h2 (by omega) h4
  clear u;go_wp2_with fail;go_roundw
  ·exact⟨t,M,j+1,rfl,by go_num,by omega,O,A,y.out,g,B⟩
  simp[intOf];omega
 have⟨hge,hiN⟩:¬(i:Int)<=N/\i=N+1:=by omega
 subst hiN;have u:=hyd G;clear G;go_wp2_with fail;go_roundw
 ·exact⟨t,M,rfl,O,A,u.out,B⟩
 have:=af.out;cases M<;>simp[boolOf]at g ⊢<;>omega
end Go.Proofs.YtoaaklhpmhjhkaaGreat
