import Derived.Test.YtoaaklhpmhjhkaaGreatC41
set_option maxRecDepth 100000
set_option maxHeartbeats 4000000
set_option linter.all false
namespace Go.Proofs.YtoaaklhpmhjhkaaGreat
open Go.RowKit
open Bm
variable {O : List Nat}{B B0 N cap g len n rules : Nat}{vd : Nat → Int}{xb : Nat → Nat}{t : Nat → Nat → Bool}{rows : Nat → Nat → Int}{ta : Option Addr}{vo : Value}{W w w' w5 : World}
theorem TB.below (h:TB ta N t w) (hW:Below w.heap.size w w'):TB ta N t w':=λi b=>by
 obtain⟨tb,off,ra,d,e,c,a⟩:=h i b;exact⟨tb,off,ra,d,e,by rw[hW.cell (p:=⟨tb,off+i,none⟩) (World.block_lt_of_cell? w _ c)];exact c,a.below hW⟩
def MaI (rules:Nat) (O:List Nat) (rows:Nat->Nat->Int) (vd:Nat->Int) (B:Nat) (e:Ending) (w':World):Prop:=
 ∃ca cc la lc na nc,e=.returned (.agg #[.int .i64 rules,.slice ca 256 cc,.slice la O.length lc,.slice na (O.length*cnt (Cl rows O.length) 256) nc])/\((∀k o,ca=some ⟨k,o,none⟩->B<=k)/\(∀k o,la=some ⟨k,o,none⟩->B<=k)/\(∀k o,na=some ⟨k,o,none⟩->B<=k)) /\
  IL ca (λb=>idxI (Cl rows O.length) b) 256 w'/\IL la (λi=>vd (O.getD i 0)) O.length w'/\IL na (λj=>(nxtL rows (reps (Cl rows O.length) 256) O.length).getD j 0) (O.length*cnt (Cl rows O.length) 256) w'
def MaR (rules:Nat) (O:List Nat) (rows:Nat->Nat->Int) (vd:Nat->Int) (w:World) (e:Ending) (w':World):Prop:=Below w.heap.size w w'/\MaI rules O rows vd w.heap.size e w'
theorem MaI.heap {e:Ending} (h:MaI rules O rows vd B e w) (hk:∀k,B<=k->k<w.heap.size->w'.heap[k]?=w.heap[k]?):MaI rules O rows vd B e w':=by
 obtain⟨g,i,p,lc,q,nc,j,⟨c,d,f⟩,l,m,n⟩:=h;exact⟨g,i,p,lc,q,nc,j,⟨c,d,f⟩,l.heap (λk b ⟨o,a⟩=>hk k (c k o a) b),m.heap (λk b ⟨o,a⟩=>hk k (d k o a) b),n.heap (λk b ⟨o,a⟩=>hk k (f k o a) b)⟩
def RwB (ra:Option Addr) (n:Nat) (rows:Nat->Nat->Int) (w:World):Prop:=∀i,i<n->∃b o xa xc,ra=some ⟨b,o,none⟩/\w.cell? ⟨b,o+i,none⟩=some (.slice xa 256 xc)/\IL xa (rows i) 256 w
noncomputable def rwB (A:Aut) (nx:Nat->Nat->Int) (O:List Nat) (i b:Nat):Int:=numF O (frsF A (toR A.N nx (O.getD i 0) b))
theorem y1y {x:Nat} (hx:x ∉ O) (y:Nat):numF (O++[x]) y=if y=x then (O.length:Int) else numF O y:=by
 unfold numF;by_cases e:y=x
 ·subst e;rw[if_pos (by simp),if_pos rfl,List.idxOf_append,if_neg hx];simp
 rw[if_neg e];by_cases h:y∈O
 ·rw[if_pos (by simp[h]),if_pos h,List.idxOf_append,if_pos h]
 rw[if_neg (by simp[h,e]),if_neg h]
theorem y2J (O:List Nat) (y:Nat):-1<=numF O y/\(y∈O->0<=numF O y)/\(y ∉ O->numF O y=-1):=by
 unfold numF;by_cases h:y∈O
 ·rw[if_pos h];exact⟨by omega,λ_=>by omega,λa=>absurd h a⟩
 rw[if_neg h];exact⟨by omega,λa=>absurd a h,λ_=>rfl⟩
theorem y1C (w:World) (base:Nat) (t:Int) (hb:base<=w.heap.size):OwnL base (.slice (some ⟨w.heap.size,0,none⟩) 1 1) [t] (w.alloc (.cells #[.int .i64 t] 3)):=
 World.ownsRow_lit (base:=base) (e:=3) (size:=1) w #[.int .i64 t] 1 hb (by unfold maxLen;omega) rfl
structure BO (fb N B0:Nat) (A:Aut) (vo:Value) (O:List Nat) (W w:World):Prop where
 f:TC fb (inl (fun j=>(frsF A j:Int)) (N+1)) w
 n:TC (fb+1) (inl (numF O) (N+1)) w
 o:OwnL B0 vo (O.map fun x:Nat=>(x:Int)) w
 b:Below W.heap.size W w
 z:fb+2<=B0/\B0<=w.heap.size/\W.heap.size<=fb
variable {A : Aut}
theorem BO.below {fb:Nat} (h:BO fb N B0 A vo O W w) (hW:Below w.heap.size w w'):BO fb N B0 A vo O W w':=by
 have a:=h.z;have:=hW.size;exact⟨h.f.block (hW.block _ (by omega)),h.n.block (hW.block _ (by omega)),h.o.below hW,h.b.trans (hW.mono h.b.size),⟨a.1,by omega,a.2.2⟩⟩
theorem BO.app {fb:Nat}{x:Nat} (h:BO fb N B0 A vo O W w) (hx:x ∉ O) (hxN:x<N+1) {ob:Obj} (hg:((w.setCell ⟨fb+1,x,none⟩ (.int .i64 (O.length:Int))).alloc ob).grownBy w5 vo.ownBlock) (ho:OwnL B0 (.slice (some ⟨g,0,none⟩) len cap) ((O.map λx:Nat=>(x:Int))++[(x:Int)]) w5):BO fb N B0 A (.slice (some ⟨g,0,none⟩) len cap) (O++[x]) W w5:=by
 have r:=h.z;obtain⟨w1,a⟩:=nam (w.setCell ⟨fb+1,x,none⟩ (.int .i64 (O.length:Int)));rw[<-a]at hg;have u:w1.heap.size=w.heap.size:=by rw[a,World.size_setCell]
 have i:∀q,q≠fb+1->w1.heap[q]?=w.heap[q]?:=λq d=>by rw[a];exact Below.heap_setCell w ⟨fb+1,x,none⟩ _ q (λe=>d e)
 have s:=h.n.set x (by rw[q1d];exact hxN) (.int .i64 (O.length:Int));rw[<-a,q1B]at s;have c:=box_bel w1 ob;have hs:=hg.size;have t:=c.size;have m:∀q,q<B0->w5.heap[q]?=w1.heap[q]?:=λq d=>by
  rw[hg.block q (by omega) (λe=>by have:=(h.o.blk q e.symm).1;omega),c.block q (by omega)]
 have k:Below W.heap.size W w1:=by rw[a];exact h.b.setCell (p:=⟨fb+1,x,none⟩) (by show _<=fb+1;omega) _
 have l:=k.trans (c.mono k.size);refine⟨(h.f.block (i fb (by omega))).block (m fb (by omega)),?_,by rw[List.map_append];exact ho,l.grown hg l.size (λq d=>by have:=(h.o.blk q d).1;omega),⟨r.1,by omega,r.2.2⟩⟩;rw[q0C (λj _=>y1y hx j)];exact s.block (m (fb+1) (by omega))
theorem q7J (w:World) (n:Nat) (hn:n<=1000000):(Instr.makeSlice 53 (.int .i64 (n:Int)) (.int .i64 (n:Int))).run Tryz.prog w=.ok (.slice (some ⟨w.heap.size,0,none⟩) n n) (w.alloc (.cells (nilL n).toArray 23)):=by
 obtain⟨i,b,c,hs,a⟩:=q4K;have h:=run_make (P:=Tryz.prog) w 53 23 i (.slice none 0 0) Tryz.underlying53 b c .i64 .i64 n n (by omega) (by omega) (by rw[a];omega) (by omega);rw[hs]at h;simp only[Int.toNat_natCast,Nat.mul_one]at h;rw[show(Value.slice none 0 0).cells=#[.slice none 0 0] from rfl,q3n]at h;exact h
def rwC (xb:Nat->Nat) (i n:Nat):List Value:=(List.range n).map λj=>if j<i then .slice (some ⟨xb j,0,none⟩) 256 256 else .slice none 0 0
theorem q5S (xb:Nat->Nat) (i n:Nat):(rwC xb i n).length=n:=by simp[rwC]
theorem q6T (xb:Nat->Nat) (i:Nat) {n j:Nat} (h:j<n):(rwC xb i n)[j]?=some (if j<i then .slice (some ⟨xb j,0,none⟩) 256 256 else .slice none 0 0):=by simp[rwC,h]
theorem y2x (xb:Nat->Nat) {i n:Nat} (h:i<n) (x:Nat):(rwC xb i n).set i (.slice (some ⟨x,0,none⟩) 256 256)=rwC (upV xb i x) (i+1) n:=by
 refine List.ext_getElem? (λj=>?_);by_cases a:j<n
 ·rw[q6T _ _ a];by_cases e:j=i
  ·subst e;rw[List.getElem?_set_self (by rw[q5S];exact a),if_pos (by omega),q0i]
  rw[List.getElem?_set_ne (λq=>e q.symm),q6T _ _ a,q0f _ _ e];by_cases e2:j<i
  ·rw[if_pos e2,if_pos (by omega)]
  rw[if_neg e2,if_neg (by omega)]
 rw[List.getElem?_eq_none (by simp[q5S];omega),List.getElem?_eq_none (by rw[q5S];omega)]
structure RT (Wc:World) (xb:Nat->Nat) (i n:Nat) (rows:Nat->Nat->Int) (w:World):Prop where
 c:TC Wc.heap.size (rwC xb i n) w
 r:∀j,j<i->TC (xb j) (inl (rows j) 256) w/\Wc.heap.size<xb j/\xb j<w.heap.size
 b:Below Wc.heap.size Wc w
 z:Wc.heap.size<w.heap.size
theorem RT.rwb {Wc:World} (h:RT Wc xb n n rows w):RwB (some ⟨Wc.heap.size,0,none⟩) n rows w:=λi a=>by
 refine⟨Wc.heap.size,0,_,256,rfl,?_,y2w (h.r i a).1⟩;rw[Nat.zero_add];have:=(h.c i _ (q6T xb n a)).1;rw[if_pos a]at this;exact this
def RBPost (es:Nat->Rx) (n:Nat) (w:World) (en:Ending) (w':World):Prop:=
 Below w.heap.size w w' /\
 ((en=.returned (.tuple #[.agg macZ.toArray,.int .i64 8])/\Ov (aftN es n) (netF es n) (kdN es n)) \/
  ∃l t A nx O,A=autOf l t (kdN es n).length/\Exp (aftN es n) (netF es n) (kdN es n) l.length 0 l t/\nx=(λi b=>t.getD (i*(kdN es n).length+idx (Kq (netH es n) (netN es n)) b) (-1))/\O=reps (alB A) A.N /\
  ((96<O.length/\en=.returned (.tuple #[.agg macZ.toArray,.int .i64 9])) \/
   (¬96<O.length/\∃m B,en=.returned (.tuple #[m,.int .i64 0])/\MaI n O (rwB A nx O) A.vd B (.returned m) w')))
theorem y0h (b off cap n:Nat) (es:Nat->Rx) (w:World) (h8:n<=8) (hP96:netN es n<=96)
  (hCk:∀W,Below w.heap.size w W->Calls Tryz.prog 26 #[.slice (some ⟨b,off,none⟩) n cap] W λe' w'=>(∃r a,e'=.returned (.tuple #[.int .i64 0,.int .i64 r,.int .i64 a]))/\Below W.heap.size W w')
  (hGr:∀W,Below w.heap.size w W->Calls Tryz.prog 27 #[.slice (some ⟨b,off,none⟩) n cap] W (GmPost es n W))
  (hPn:∀l t,Exp (aftN es n) (netF es n) (kdN es n) l.length 0 l t->Pn (autOf l t (kdN es n).length) (Kq (netH es n) (netN es n)) (λi b=>t.getD (i*(kdN es n).length+idx (Kq (netH es n) (netN es n)) b) (-1)))
  (hMa:∀(W:World) (pb:Nat) (vd:Nat->Int) (nx:Nat->Nat->Int) (bs:List Nat) (N:Nat) (oa:Option Addr) (oc:Nat) (O:List Nat) (ra:Option Addr) (rc:Nat) (rows:Nat->Nat->Int),PLN pb N vd nx bs W->IL oa (λi=>((O.getD i 0:Nat):Int)) O.length W->RwB ra O.length rows W->O.length<=96->N<=200->(∀x∈O,x<N) ->
   Calls Tryz.prog 31 #[.pointer (some ⟨pb,0,none⟩),.int .i64 n,.slice oa O.length oc,.slice ra O.length rc] W (MaR n O rows vd W)):
  Calls Tryz.prog 10 #[.slice (some ⟨b,off,none⟩) n cap] w (RBPost es n w):=by
 have hz:=q1i;obtain⟨W0,aw⟩:=nam (w.alloc (.cells #[.int .i64 0,.slice none 0 0,.slice none 0 0,.slice none 0 0] 25));have T0:TC w.heap.size macZ W0:=by rw[aw];exact TC.boxed w macZ _
 have B0:Below w.heap.size w W0:=by rw[aw];exact box_bel _ _
 have cb:W0.heap.size=w.heap.size+1:=by rw[aw];simp
 have bD:=hyd (hCk W0 B0);have bK:=hyd aw;have bE:=hyd hGr;have bN:=hyd3 cb T0 B0;have cx:=hyd hPn;have cu:Hid (∀(W:World) (pb:Nat) (vd:Nat->Int) (nx:Nat->Nat->Int) (bs:List Nat) (N:Nat) (oa:Option Addr) (oc:Nat) (O:List Nat) (ra:Option Addr) (rc:Nat) (rows:Nat->Nat->Int),PLN pb N vd nx bs W->IL oa (λi=>((O.getD i 0:Nat):Int)) O.length W->RwB ra O.length rows W->O.length<=96->N<=200->(∀x∈O,x<N) ->
   Calls Tryz.prog 31 #[.pointer (some ⟨pb,0,none⟩),.int .i64 n,.slice oa O.length oc,.slice ra O.length rc] W (MaR n O rows vd W)):=hMa
 clear aw cb T0 B0 hCk hGr hPn hMa;go_enter Tryz.func10,Tryz.ntmps10;go_wp2_with fail;rw[<-bK.out];refine bD.out.mono ?_;rintro e w1 ⟨⟨r,a,rfl⟩,B1⟩;obtain⟨s0,T0,B0⟩:=bN.out;have aX:Below w.heap.size w w1:=B0.trans (B1.mono (by omega));have T1:=T0.block (B1.block _ (by omega));have cm:w.heap.size+1<=w1.heap.size:=by have:=B1.size;omega
 have aN:=hyd (bE.out w1 aX);have H1:=hyd3 T1 aX cm;clear bD bK s0 T0 B0 B1 aX T1 bE bN cm;go_wp2_with fail;refine aN.out.mono ?_;rintro e w2 ⟨X,tr,ad,cp,ms,Ts,Ns,ti,nd,rfl,bS,bT,a7,a6,bb,B2,cK⟩;obtain⟨gb,b0⟩:=nam w1.heap.size;rw[<-b0]at a7 a6 bb ⊢;have bI:=hyd (y1r X gb n tr ad cp ms Ts Ns es ti nd bS h8 hP96 bT w2 a7 a6 bb);have H2:Hid (TC w.heap.size macZ w2/\Below w.heap.size w w2/\w.heap.size+1<=w2.heap.size):=by
  obtain⟨x1,x2,x3⟩:=H1.out;exact⟨x1.block (B2.block _ (by omega)),x2.trans (B2.mono (by omega)),by omega⟩
 clear aN bS bT a7 a6 bb B2 cK b0 H1;go_wp2_with fail;refine bI.out.mono ?_;rintro e w3 ⟨B3,bi⟩;have H3:Hid (TC w.heap.size macZ w3/\Below w.heap.size w w3/\w.heap.size+1<=w3.heap.size):=by
  obtain⟨x1,x2,x3⟩:=H2.out;have:=B3.size;exact⟨x1.block (B3.block _ (by omega)),x2.trans (B3.mono (by omega)),by omega⟩
 clear H2 bI;rcases bi with ⟨rfl,b9⟩|⟨l,t,pb,rfl,aa,aT⟩
 ·obtain⟨T3,bx,cL⟩:=H3.out;obtain⟨tz,BX,B,_⟩:=q1e (.int .i64 0) (.slice none 0 0) (.slice none 0 0) (.slice none 0 0) T3 bx;obtain⟨WX,L⟩:∃W,W=w3.setCells w.heap.size 0 [.int .i64 0,.slice none 0 0,.slice none 0 0,.slice none 0 0]:=⟨_,rfl⟩;rw[<-L]at BX B;have av:Hid (WX=w3.setCells w.heap.size 0 [.int .i64 0,.slice none 0 0,.slice none 0 0,.slice none 0 0]):=L;have Z:Hid ((loadVar 25 ⟨w.heap.size,0,none⟩).run Tryz.prog WX=.ok (.agg #[.int .i64 0,.slice none 0 0,.slice none 0 0,.slice none 0 0]) WX):=B;have HR:Hid (RBPost es n w (.returned (.tuple #[.agg macZ.toArray,.int .i64 8])) WX):=⟨BX,Or.inl ⟨rfl,b9⟩⟩;clear L B T3 bx cL B3 b9 BX;go_wp2_with (first|(with_reducible refine gst 25 ?_;refine Stop.out ?_));refine⟨?_⟩;refine wpList_store_mid rfl 25 _ _ rfl w.heap.size 0 #[.int .i64 0,.slice none 0 0,.slice none 0 0,.slice none 0 0] rfl rfl tz q0D (by simp[Value.oneCell']) ?_;rw[List.toList_toArray,<-av.out];go_wp2_with fail;exact bodyPost_ret (v:=.tuple #[.agg macZ.toArray,.int .i64 8]) (q0L Tryz.results10 rfl Z.out rfl) rfl HR.out
 have PN:=cx.out l t aa;obtain⟨E,hE⟩:=nam (Kq (netH es n) (netN es n));obtain⟨A,hA⟩:=nam (autOf l t (kdN es n).length);obtain⟨nx,aJ⟩:∃nx:Nat->Nat->Int,nx=(λi b=>t.getD (i*(kdN es n).length+idx (Kq (netH es n) (netN es n)) b) (-1)):=⟨_,rfl⟩;rw[<-hA,<-hE]at PN;rw[hE,<-aJ,<-hE]at PN;obtain⟨N,hN⟩:=nam A.N;have aG:N=l.length:=by rw[hN,hA];rfl
 have a9:N<=200:=by rw[aG];exact aa.size.2.1
 have cR:0<N:=by rw[aG];exact aa.size.1
 have ax:kdN es n=reps E 256:=by rw[hE];rfl
 have aH:PLN pb N A.vd nx (reps E 256) w3:=by
  rw[aG,hA,aJ,<-ax];exact aT
 have bW:=y1a pb N A.vd nx (reps E 256) w3 a9 aH (λk c hk=>(reps_mem hk).1) (cnt_le E 256) (λi c hi hc=>by rw[hN]at hi ⊢;exact PN.lt hi hc);have bB:=hyd bW;have HX:=hyd5 aa hA aJ hN PN;have bH:=hyd aH;have cE:∃va vc,w3.cell? ⟨pb,0,none⟩=some (.slice va N vc):=by
  obtain⟨va,vc,Y,_⟩:=aH.v;exact⟨va,vc,Y⟩
 clear aa aT hA hE aJ aG ax aH bW PN hN B3;go_wp2_with fail;refine bB.out.mono ?_;rintro e G ⟨rk,tt,rfl,aU,B4,aQ,aR⟩;obtain⟨va,vc,cv⟩:=cE;have cD:G.cell? ⟨pb,0,none⟩=some (.slice va N vc):=by rw[B4.cell (p:=⟨pb,0,none⟩) (World.block_lt_of_cell? w3 _ cv)];exact cv
 have bM:Hid (∀w',(Instr.makeSlice 23 (.int .i64 ((N:Int)+1)) (.int .i64 ((N:Int)+1))).run Tryz.prog w'=.ok (.slice (some ⟨w'.heap.size,0,none⟩) (N+1) (N+1)) (w'.alloc (.cells (zeroI (N+1)).toArray 3))):=λw'=>by
  have:=q1M w' (N+1) (by omega);rw[show((N:Int)+1)=((N+1:Nat):Int) by omega];exact this
 have bd:=aU.tb;obtain⟨tb,cd⟩:=nam w3.heap.size;rw[<-cd]at bd ⊢;have a0:=hyd bd;have aY:=hyd2 aQ aR;have H4:Hid (TC w.heap.size macZ G/\Below w.heap.size w G/\w.heap.size+1<=G.heap.size/\PLN pb N A.vd nx (reps E 256) G):=by
  obtain⟨x1,x2,x3⟩:=H3.out;have:=B4.size;exact⟨x1.block (B4.block _ (by omega)),x2.trans (B4.mono (by omega)),by omega,bH.out.below B4⟩
 have b6:=bM.out G;obtain⟨w5,az⟩:=nam (G.alloc (.cells (zeroI (N+1)).toArray 3));have aV:=bM.out w5;obtain⟨w6,aA⟩:=nam (w5.alloc (.cells (zeroI (N+1)).toArray 3));obtain⟨fb,aI⟩:=nam G.heap.size;have z5:w5.heap.size=fb+1:=by rw[az,aI];simp
 have z6:w6.heap.size=fb+2:=by rw[aA];simp[z5]
 have x5:Below G.heap.size G w5:=by rw[az];exact box_bel _ _
 have x6:Below w5.heap.size w5 w6:=by rw[aA];exact box_bel _ _
 have Tf:TC fb (inl (λ_=>0) (N+1)) w6:=by
  have Y:TC fb (inl (λ_=>0) (N+1)) w5:=by rw[aI,az];exact TC.boxed G (zeroI (N+1)) 3
  exact Y.block (x6.block fb (by omega))
 have Tn:TC (fb+1) (inl (λ_=>0) (N+1)) w6:=by rw[<-z5,aA];exact TC.boxed w5 (zeroI (N+1)) 3
 have H6:Hid (TC fb (inl (λ_=>0) (N+1)) w6/\TC (fb+1) (inl (λ_=>0) (N+1)) w6/\Below G.heap.size G w6/\w6.heap.size=fb+2):=⟨Tf,Tn,x5.trans (x6.mono (by omega)),z6⟩;have ak:=hyd aI;have bO:=hyd az;have cA:=hyd aA;clear bB aU bd aQ aR cv cd Tf Tn x5 x6 B4 H3 bH az aA aI z5 z6;rw[bO.out]at aV;go_wp2_with fail;rw[<-bO.out,<-cA.out,<-ak.out];clear b6;clear aV cD
 go_loopw [14] (λx w'=>∃i:Nat,i<=N+1/\x=.int .i64 i/\TC fb (inl (λj=>if j<i then (frsF A j:Int) else 0) (N+1)) w'/\TC (fb+1) (inl (λj=>if j<i then -1 else 0) (N+1)) w'/\Below G.heap.size G w'/\fb+2<=w'.heap.size) (λx _=>N+1-(intOf x).toNat)
 ·obtain⟨y1,y2,y3,y4⟩:=H6.out;exact⟨0,by omega,rfl,by rw[q0C (g:=λ_=>0) (λj _=>by simp)];exact y1,by rw[q0C (g:=λ_=>0) (λj _=>by simp)];exact y2,y3,by omega⟩
 clear H6;obtain⟨i,hi,rfl,Tf,Tn,Bw,sz⟩:=hrel;by_cases b3:i<=N
 ·have⟨hle',hle2⟩:(i:Int)<=N/\(i:Int)<N+1:=by omega
  obtain⟨f1,f2⟩:=Tf i _ (q1l _ (show i<N+1 by omega));have al:=Tf.set i (by rw[q1d];omega) (.int .i64 (i:Int));have bX:∀q,q≠fb->(wr.setCell ⟨fb,i,none⟩ (.int .i64 (i:Int))).heap[q]?=wr.heap[q]?:=λq hq=>Below.heap_setCell wr ⟨fb,i,none⟩ _ q (λe=>hq e)
  have a3:=Tn.block (bX (fb+1) (by omega));obtain⟨n1,n2⟩:=a3 i _ (q1l _ (show i<N+1 by omega));have aE:=a3.set i (by rw[q1d];omega) (.int .i64 (-1));obtain⟨w7,H⟩:=nam ((wr.setCell ⟨fb,i,none⟩ (.int .i64 (i:Int))).setCell ⟨fb+1,i,none⟩ (.int .i64 (-1)));have a2:TC fb ((inl (λj=>if j<i then (frsF A j:Int) else 0) (N+1)).set i (.int .i64 (i:Int))) w7:=by
   rw[H];exact al.block (Below.heap_setCell _ ⟨fb+1,i,none⟩ _ fb (λe=>by have e':fb=fb+1:=e;omega))
  rw[<-H]at aE;rw[q1B]at a2 aE;have B7:Below G.heap.size G w7:=by
   rw[H];exact(Bw.setCell (p:=⟨fb,i,none⟩) (by have:=ak.out;show _<=fb;omega) _).setCell (p:=⟨fb+1,i,none⟩) (by have:=ak.out;show _<=fb+1;omega) _
  have z7:fb+2<=w7.heap.size:=by rw[H,World.size_setCell,World.size_setCell];exact sz
  have H7:Hid (TC fb (inl (λj=>if j=i then (i:Int) else if j<i then (frsF A j:Int) else 0) (N+1)) w7/\TC (fb+1) (inl (λj=>if j<i+1 then -1 else 0) (N+1)) w7/\Below G.heap.size G w7/\fb+2<=w7.heap.size):=by
   refine⟨a2,?_,B7,z7⟩;rw[q0C (g:=λj=>if j=i then -1 else if j<i then -1 else 0) (λj _=>?_)]
   ·exact aE
   by_cases e:j=i
   ·simp[e]
   by_cases e2:j<i
   ·simp[e,e2,show j<i+1 by omega]
   simp[e,e2,show ¬j<i+1 by omega]
  have a1:=hyd H;clear Tf Tn al a2 a3 aE B7 z7 H Bw bX;go_wp2_with fail;rw[<-a1.out];clear f1 f2 n1 n2
  go_loopw [15] (λx w'=>∃(f:Nat) (jj:Int),x=.int .i64 jj/\-1<=jj/\jj<=i/\f<=i/\Hid (tt i f=false/\∀c:Nat,jj<c->c<=i->tt i c=false->f<=c)/\TC fb (inl (λj=>if j=i then (f:Int) else if j<i then (frsF A j:Int) else 0) (N+1)) w'/\TC (fb+1) (inl (λj=>if j<i+1 then -1 else 0) (N+1)) w'/\Below G.heap.size G w'/\fb+2<=w'.heap.size) (λx _=>(intOf x+1).toNat)
  ·obtain⟨y1,y2,y3,y4⟩:=H7.out;exact⟨i,i,rfl,by omega,by omega,by omega,⟨aY.out.1.irr i b3,λc Y h2=>by omega⟩,y1,y2,y3,y4⟩
  clear H7;obtain⟨f,jj,rfl,cS,cT,bZ,HF,Tf,Tn,Bw,sz⟩:=hrel;by_cases hj:0<=jj
  ·obtain⟨j,rfl⟩:∃j:Nat,jj=j:=⟨jj.toNat,by omega⟩;have cG:(0:Int)<=j:=by omega
   have⟨hji,hjN⟩:j<=i/\(j:Int)<N+1:=by omega
   obtain⟨cX,cY,ra,rc,et,ct,br⟩:=(a0.out.below Bw) i b3;cases et;obtain⟨b2,o2,e2,c2⟩:=br j (by omega);subst e2;simp only[Nat.zero_add]at ct;cases ht:tt i j
   ·rw[ht]at c2;obtain⟨f1,f2⟩:=Tf i _ (q1l _ (show i<N+1 by omega));have al:=Tf.set i (by rw[q1d];omega) (.int .i64 (j:Int));rw[q1B]at al;have Hn:Hid (tt i j=false/\∀c:Nat,((j:Int)-1)<c->c<=i->tt i c=false->j<=c):=⟨ht,λc Y _ _=>by omega⟩;have H8:Hid (TC fb (inl (λq=>if q=i then (j:Int) else if q<i then (frsF A q:Int) else 0) (N+1)) (wr.setCell ⟨fb,i,none⟩ (.int .i64 (j:Int)))/\TC (fb+1) (inl (λq=>if q<i+1 then -1 else 0) (N+1)) (wr.setCell ⟨fb,i,none⟩ (.int .i64 (j:Int)))/\Below G.heap.size G (wr.setCell ⟨fb,i,none⟩ (.int .i64 (j:Int)))/\fb+2<=(wr.setCell ⟨fb,i,none⟩ (.int .i64 (j:Int))).heap.size):=by
     refine⟨?_,Tn.block (Below.heap_setCell wr ⟨fb,i,none⟩ _ (fb+1) (λe=>by have e':fb+1=fb:=e;omega)),Bw.setCell (p:=⟨fb,i,none⟩) (by have:=ak.out;show _<=fb;omega) _,by rw[World.size_setCell];exact sz⟩;rw[q0C (g:=λq=>if q=i then (j:Int) else if q=i then (f:Int) else if q<i then (frsF A q:Int) else 0) (λq _=>by by_cases e:q=i<;>simp[e])];exact al
    clear Tf al Tn ht HF br;go_wp2_with fail;go_roundw
    ·exact⟨j,(j:Int)-1,by go_num,by omega,by omega,hji,Hn,H8.out⟩
    simp[intOf]
   rw[ht]at c2;have Hn:Hid (tt i f=false/\∀c:Nat,((j:Int)-1)<c->c<=i->tt i c=false->f<=c):=⟨HF.out.1,λc Y h2 h3=>by
    by_cases e:c=j
    ·subst e;rw[ht]at h3;cases h3
    exact HF.out.2 c (by omega) h2 h3⟩
   clear ht HF br;go_wp2_with fail;go_roundw
   ·exact⟨f,(j:Int)-1,by go_num,by omega,by omega,bZ,Hn,Tf,Tn,Bw,sz⟩
   simp[intOf]
  have⟨cG,hjm⟩:¬(0:Int)<=jj/\jj=-1:=by omega
  subst hjm;have Hf:Hid ((f:Int)=(frsF A i:Nat)):=by
   show _=_;obtain⟨_,_,_,x4,x5⟩:=HX.out;have:=y3C x5 (t:=tt) (by rw[<-x4];exact aY.out.1) (by rw[<-x4];exact aY.out.2) (i:=i) (f:=f) (by omega) bZ HF.out.1 (λj hj=>by
    cases hx:tt i j
    ·have:=HF.out.2 j (by omega) (by omega) hx;omega
    rfl)
   rw[this]
  have H8:Hid (TC fb (inl (λj=>if j<i+1 then (frsF A j:Int) else 0) (N+1)) wr):=by
   show TC _ _ _;rw[q0C (g:=λj=>if j=i then (f:Int) else if j<i then (frsF A j:Int) else 0) (λj _=>?_)]
   ·exact Tf
   by_cases e:j=i
   ·subst e;simp[Hf.out]
   by_cases e2:j<i
   ·simp[e,e2,show j<i+1 by omega]
   simp[e,e2,show ¬j<i+1 by omega]
  clear Tf HF;go_wp2_with fail;go_roundw
  ·exact⟨i+1,by omega,by go_num,H8.out,Tn,Bw,sz⟩
  simp[intOf];omega
 have⟨hle',hiN⟩:¬(i:Int)<=N/\i=N+1:=by omega
 subst hiN;have cQ:(0:Int)<N+1:=by omega
 obtain⟨B0,a5⟩:=nam wr.heap.size;have aB:=box_bel wr (.cells #[.int .i64 0] 3);have a4:=Tn.block (aB.block (fb+1) (by omega));obtain⟨n1,n2⟩:=a4 0 _ (q1l _ (show 0<N+1 by omega));have aF:=a4.set 0 (by rw[q1d];omega) (.int .i64 0);rw[q1B]at aF;obtain⟨w9,M⟩:=nam ((wr.alloc (.cells #[.int .i64 0] 3)).setCell ⟨fb+1,0,none⟩ (.int .i64 0));rw[<-M]at aF;have bf:∀q,q≠fb+1->w9.heap[q]?=(wr.alloc (.cells #[.int .i64 0] 3)).heap[q]?:=λq hq=>by rw[M];exact Below.heap_setCell _ ⟨fb+1,0,none⟩ _ q (λe=>hq e)
 have bC:Hid (BO fb N B0 A (.slice (some ⟨B0,0,none⟩) 1 1) [0] G w9):=by
  refine⟨?_,?_,?_,?_,⟨by omega,?_,by have:=ak.out;omega⟩⟩
  ·have:=(Tf.block (aB.block fb (by omega))).block (bf fb (by omega));rw[q0C (g:=λj=>if j<N+1 then (frsF A j:Int) else 0) (λj hj=>by rw[if_pos hj])];exact this
  ·rw[q0C (g:=λj=>if j=0 then 0 else if j<N+1 then -1 else 0) (λj hj=>?_)]
   ·exact aF
   unfold numF;by_cases e:j=0
   ·simp[e]
   simp[e,hj]
  ·have:=y1C wr B0 0 (by omega);rw[<-a5]at this;exact this.keep (λk hk=>bf k (by
     have cU:B0=k:=Option.some.inj hk;omega))
  ·rw[M];exact(Bw.trans (aB.mono Bw.size)).setCell (p:=⟨fb+1,0,none⟩) (by have:=ak.out;show _<=fb+1;omega) _
  rw[M,World.size_setCell];have:=aB.size;omega
 have aD:=hyd M;have bF:=hyd (Or.first HX.out.2.2.2.2);clear Tf Tn a4 aF M bf aB Bw sz;go_wp2_with fail;rw[<-a5,<-aD.out];clear n1 n2 a5
 go_loopw [16,17] (λov x w'=>∃(i s:Nat) (O:List Nat) (oa:Nat) (oc:Nat),i<=s/\s<=200/\x=.int .i64 i/\ov=.slice (some ⟨oa,0,none⟩) s oc/\Hid (s=O.length)/\Hid ((∃r,Or A E O i r 0)\/(i=O.length/\O=reps (alB A) A.N))/\BO fb N B0 A (.slice (some ⟨oa,0,none⟩) s oc) O G w') (λ_ x _=>201-(intOf x).toNat)
 ·exact⟨0,1,[0],B0,1,by omega,by omega,rfl,rfl,rfl,Or.inl ⟨0,bF.out⟩,bC.out⟩
 clear bC bF;obtain⟨i,s,O,oa,oc,hi,am,rfl,rfl,D,R,u⟩:=hrel;by_cases b4:i<s
 ·have b5:(i:Int)<s:=by omega
  have aK:∃r,Or A E O i r 0:=by
   rcases R.out with h|⟨h,_⟩
   ·exact h
   have:=D.out;omega
  obtain⟨r,aK⟩:=aK;have bG:=hyd aK;have aM:=hyd u;clear aK R u;go_wp2_with fail
  go_loopw [16,18] (λov x w'=>∃(b s:Nat) (O:List Nat) (oa:Nat) (oc:Nat),b<=256/\i<s/\s<=200/\x=.int .i64 b/\ov=.slice (some ⟨oa,0,none⟩) s oc/\Hid (s=O.length)/\Hid (Or A E O i r b)/\BO fb N B0 A (.slice (some ⟨oa,0,none⟩) s oc) O G w') (λ_ x _=>256-(intOf x).toNat)
  ·exact⟨0,s,O,oa,oc,by omega,b4,am,rfl,rfl,D,bG,aM.out⟩
  clear aM bG D am b4 b5;obtain⟨b,s,O,oa,oc,hb,ae,am,rfl,rfl,D,R,u⟩:=hrel;have b1:(i:Int)<s:=by omega
  by_cases ab:b<256
  ·have bY:(b:Int)<256:=by omega
   obtain⟨x1,x2,x3,x4,x5⟩:=HX.out;have cH:r<N:=by rw[x4];exact R.out.r
   have co:wr.cell? ⟨oa,i,none⟩=some (.int .i64 (r:Int)):=by
    obtain⟨ad,cap,e,il⟩:=u.o.il;cases e;obtain⟨g,o,e1,e2⟩:=il i (by rw[List.length_map,<-D.out];exact ae);cases e1;rw[Nat.zero_add]at e2;rw[e2];simp only[q3r];rw[List.getD_eq_getElem?_getD,R.out.i];rfl
   have ag:=hyd (q6d pb N A.vd nx (reps E 256) r b wr (by omega) (H4.out.2.2.2.below u.b) (by omega) ab);have bo:=Or.step x5 R.out ab;rw[<-x4]at bo;obtain⟨to,U⟩:=nam (toR N nx r b);rw[<-U]at ag bo;have cg:to<=N:=by rw[U,x4];exact(x5.to (by omega) ab).1
   have ce:(to:Int)<N+1:=by omega
   obtain⟨cf,_⟩:=u.f to _ (q1l _ (show to<N+1 by omega));obtain⟨C,I⟩:=nam (frsF A to);rw[<-I]at cf;have aq:=hyd u;rcases bo with ⟨Q,P⟩|⟨m,Q,P,V⟩
   ·have ci:C=N:=by rw[I,Q,x4];exact q6x A
    have q1:¬(C:Int)<N:=by omega
    have ar:=hyd P;clear u I U Q P x1 x2 x3 x4 x5;go_wp2_with fail;refine ag.out.mono ?_;rintro e w8 ⟨rfl,rfl⟩;go_wp2_with fail;go_roundw
    ·exact⟨b+1,s,O,oa,oc,by omega,ae,am,by go_num,rfl,D,ar,aq.out⟩
    simp[intOf];omega
   subst Q;have bu:C=least (alB A) to:=by rw[I];unfold frsF;rw[if_neg (by omega)]
   have ci:C<N:=by rw[I,x4];exact y2n (by omega)
   have⟨hxN',hxN2⟩:(C:Int)<N/\(C:Int)<N+1:=by omega
   rw[<-bu]at V;obtain⟨cn,cP⟩:=u.n C _ (q1l _ (show C<N+1 by omega));obtain⟨cj,bv,bw⟩:=y2J O C;rcases V with ⟨J,s5⟩|⟨J,s5⟩
   ·obtain⟨nv,ai⟩:=nam (numF O C);rw[<-ai]at cn;have cN:0<=nv:=by rw[ai];exact bv J
    have q1:(nv==-1)=false:=by simp;omega
    have ar:=hyd s5;clear u I U P J s5 bu x1 x2 x3 x4 x5 ai cj bv bw;go_wp2_with fail;refine ag.out.mono ?_;rintro e w8 ⟨rfl,rfl⟩;go_wp2_with fail;go_roundw
    ·exact⟨b+1,s,O,oa,oc,by omega,ae,am,by go_num,rfl,D,ar,aq.out⟩
    simp[intOf];omega
   rw[bw J]at cn;have q1:((-1:Int)==-1)=true:=rfl;have ar:=hyd s5;have cz:=hyd J;have b8:s+1<=200:=by
    have Y:=s5.o;have h2:(O++[C]).length=cnt (alB A) (kn A (r*A.K+cnt E (b+1))):=by rw[Y];rfl
    have h3:=cnt_le (alB A) (kn A (r*A.K+cnt E (b+1)));have h5:r*A.K+cnt E (b+1)<=A.N*A.K:=by
     have h6:=cnt_mono E (show b+1<=256 by omega);have h7:cnt E 256=A.K:=by rw[x5.k];rfl
     have h8:(r+1)*A.K<=A.N*A.K:=Nat.mul_le_mul_right _ (by omega);rw[Nat.succ_mul]at h8;omega
    have h4:=kn_le x5.b h5;rw[List.length_append,List.length_singleton,<-D.out]at h2;omega
   obtain⟨w9,M⟩:=nam (wr.setCell ⟨fb+1,C,none⟩ (.int .i64 (s:Int)));have aD:=hyd M;have z9:w9.heap.size=wr.heap.size:=by rw[M,World.size_setCell]
   have bq:=box_bel w9 (.cells #[.int .i64 (C:Int)] 3);have bU:OwnL B0 (.slice (some ⟨oa,0,none⟩) s oc) (O.map λx:Nat=>(x:Int)) (w9.alloc (.cells #[.int .i64 (C:Int)] 3)):=by
    have Y:OwnL B0 (.slice (some ⟨oa,0,none⟩) s oc) (O.map λx:Nat=>(x:Int)) w9:=u.o.keep (λk hk=>by
     rw[M];exact Below.heap_setCell wr ⟨fb+1,C,none⟩ _ k (λe=>by
      have e':k=fb+1:=e;have:=(u.o.blk k hk).1;have:=u.z;omega))
    exact Y.below bq
   have b7:(w9.alloc (.cells #[.int .i64 (C:Int)] 3)).cell? ⟨wr.heap.size,0,none⟩=some (.int .i64 (C:Int)):=by rw[<-z9,World.cell?_alloc_new];rfl
   have ax:B0<=(w9.alloc (.cells #[.int .i64 (C:Int)] 3)).heap.size:=by have:=bq.size;have:=u.z;omega
   have aO:Hid ((O.map λx:Nat=>(x:Int)).length=s):=by show _=_;rw[List.length_map,D.out]
   have Hn:Hid (∀g cap w5,(w9.alloc (.cells #[.int .i64 (C:Int)] 3)).grownBy w5 (Value.slice (some ⟨oa,0,none⟩) s oc).ownBlock->OwnL B0 (.slice (some ⟨g,0,none⟩) (s+1) cap) ((O.map λx:Nat=>(x:Int))++[(C:Int)]) w5->BO fb N B0 A (.slice (some ⟨g,0,none⟩) (s+1) cap) (O++[C]) G w5):=λg cap w5 Y h2=>by
    rw[aD.out,D.out]at Y;rw[D.out]at h2 ⊢;exact(D.out▸aq.out).app cz.out (by omega) Y h2
   clear u I U P J s5 bu x1 x2 x3 x4 x5 cj bv bw bq M z9;go_wp2_with fail;refine ag.out.mono ?_;rintro e w8 ⟨rfl,rfl⟩;go_wp2_with (first|(with_reducible show wpList _ _ _ (⟨_,Op.call { callee:=Callee.builtin Builtin.append,args:=_,argTypes:=_ },_,_,_,_⟩::_) _ _;refine Stop.out ?_));refine⟨?_⟩;rw[<-aD.out];refine Bm.wpList_append_int (by rfl) _ _ (by rfl) B0 (.slice (some ⟨oa,0,none⟩) s oc) _ (by rfl) bU (by rw[aO.out];omega) w8.heap.size (C:Int) (by rfl) b7 ax _ rfl ?_;rw[aO.out];intro g5 aP cM aS ac bj _;have cq:=Hn.out g5 aP cM ac aS;clear aS ac bj bU b7 ax Hn;go_wp2_with fail;go_roundw
   ·exact⟨b+1,s+1,O++[C],g5,aP,by omega,by omega,b8,by go_num,rfl,by show _=_;rw[List.length_append,D.out];rfl,ar,cq⟩
   simp[intOf];omega
  have⟨cF,hb2⟩:¬(b:Int)<256/\b=256:=by omega
  subst hb2;have cw:Hid ((∃r,Or A E O (i+1) r 0)\/(i+1=O.length/\O=reps (alB A) A.N)):=by
   rcases Or.next HX.out.2.2.2.2 R.out with ⟨r',_,h2⟩|⟨Y,h2⟩
   ·exact Or.inl ⟨r',h2⟩
   exact Or.inr ⟨Y.symm,h2⟩
  go_wp2_with fail;go_roundw
  ·exact⟨i+1,s,O,oa,oc,by omega,am,by go_num,rfl,D,cw,u⟩
  simp[intOf];omega
 have cF:¬(i:Int)<s:=by omega
 have hO:O=reps (alB A) A.N:=by
  rcases R.out with ⟨r,h⟩|⟨_,h⟩
  ·have:=(List.getElem?_eq_some_iff.1 h.i).1;have:=D.out;omega
  exact h
 have a8:=HX.out.2.2.2.1;have bc:∀x∈O,x<N:=λx hx=>by rw[hO,q3m]at hx;rw[a8];exact hx.1
 by_cases bQ:96<s
 ·have bR:(96:Int)<s:=by omega
  have T8:TC w.heap.size macZ wr:=H4.out.1.block (u.b.block _ (by have:=H4.out.2.2.1;omega));have bz:Below w.heap.size w wr:=H4.out.2.1.trans (u.b.mono (by have:=H4.out.2.2.1;omega));obtain⟨tz,BX,B,_⟩:=q1e (.int .i64 0) (.slice none 0 0) (.slice none 0 0) (.slice none 0 0) T8 bz;obtain⟨WX,L⟩:∃W,W=wr.setCells w.heap.size 0 [.int .i64 0,.slice none 0 0,.slice none 0 0,.slice none 0 0]:=⟨_,rfl⟩;rw[<-L]at BX B;have av:Hid (WX=wr.setCells w.heap.size 0 [.int .i64 0,.slice none 0 0,.slice none 0 0,.slice none 0 0]):=L;have Z:Hid ((loadVar 25 ⟨w.heap.size,0,none⟩).run Tryz.prog WX=.ok (.agg #[.int .i64 0,.slice none 0 0,.slice none 0 0,.slice none 0 0]) WX):=B;have HR:Hid (RBPost es n w (.returned (.tuple #[.agg macZ.toArray,.int .i64 9])) WX):=⟨BX,Or.inr ⟨l,t,A,nx,O,HX.out.2.1,HX.out.1,HX.out.2.2.1,hO,Or.inl ⟨by rw[<-D.out];exact bQ,rfl⟩⟩⟩;clear L B T8 bz BX u hO R bc;go_wp2_with (first|(with_reducible refine gst 25 ?_;refine Stop.out ?_));refine⟨?_⟩;refine wpList_store_mid rfl 25 _ _ rfl w.heap.size 0 #[.int .i64 0,.slice none 0 0,.slice none 0 0,.slice none 0 0] rfl rfl tz q0D (by simp[Value.oneCell']) ?_;rw[List.toList_toArray,<-av.out];go_wp2_with fail;exact bodyPost_ret (v:=.tuple #[.agg macZ.toArray,.int .i64 9]) (q0L Tryz.results10 rfl Z.out rfl) rfl HR.out
 have bR:¬(96:Int)<s:=by omega
 have bm:(Instr.makeSlice 53 (.int .i64 (s:Int)) (.int .i64 (s:Int))).run Tryz.prog wr=.ok (.slice (some ⟨wr.heap.size,0,none⟩) s s) (wr.alloc (.cells (nilL s).toArray 23)):=q7J wr s (by omega);have ch:=box_bel wr (.cells (nilL s).toArray 23);have au:Hid (RT wr (λ_=>0) 0 s (rwB A nx O) (wr.alloc (.cells (nilL s).toArray 23))):=by
  refine⟨?_,λj hj=>by omega,ch,by simp⟩;have:=TC.boxed wr (nilL s) 23;have e:rwC (λ_=>0) 0 s=nilL s:=by unfold rwC nilL;exact List.map_congr_left (λj _=>by rw[if_neg (by omega)])
  rw[e];exact this
 have af:=hyd u;have aZ:=hyd3 hO bc D.out;obtain⟨F,be⟩:=nam wr;rw[<-be]at au af;have bL:=hyd be;clear u hO R bc ch be;go_wp2_with fail;clear bm;rw[<-bL.out];clear bL
 go_loopw [21] (λx w'=>∃(i:Nat) (xb:Nat->Nat),i<=s/\x=.int .i64 i/\RT F xb i s (rwB A nx O) w') (λx _=>s-(intOf x).toNat)
 ·exact⟨0,_,by omega,rfl,au.out⟩
 clear au;obtain⟨i,xb,hi,rfl,T⟩:=hrel;by_cases ae:i<s
 ·have b1:(i:Int)<s:=by omega
  obtain⟨y,bt⟩:=nam wr.heap.size;have bm:(Instr.makeSlice 23 (.int .i64 256) (.int .i64 256)).run Tryz.prog wr=.ok (.slice (some ⟨wr.heap.size,0,none⟩) 256 256) (wr.alloc (.cells (zeroI 256).toArray 3)):=q1M wr 256 (by omega);have aL:=box_bel wr (.cells (zeroI 256).toArray 3);have cJ:=T.z;have c1:=T.c.block (aL.block F.heap.size (by omega));obtain⟨k1,k2⟩:=c1 i _ (q6T xb i ae);have c2:=c1.set i (by rw[q5S];exact ae) (.slice (some ⟨y,0,none⟩) 256 256);rw[y2x xb ae y]at c2;have ah:∀q,q≠F.heap.size->((wr.alloc (.cells (zeroI 256).toArray 3)).setCell ⟨F.heap.size,i,none⟩ (.slice (some ⟨y,0,none⟩) 256 256)).heap[q]?=(wr.alloc (.cells (zeroI 256).toArray 3)).heap[q]?:=λq hq=>Below.heap_setCell _ ⟨F.heap.size,i,none⟩ _ q (λe=>hq e)
  obtain⟨w7,H⟩:=nam ((wr.alloc (.cells (zeroI 256).toArray 3)).setCell ⟨F.heap.size,i,none⟩ (.slice (some ⟨y,0,none⟩) 256 256));have H7:Hid (TC F.heap.size (rwC (upV xb i y) (i+1) s) w7/\TC y (inl (λc=>if c<0 then rwB A nx O i c else 0) 256) w7/\(∀j,j<i->TC (xb j) (inl (rwB A nx O j) 256) w7/\F.heap.size<xb j/\xb j<y)/\Below F.heap.size F w7/\y<w7.heap.size/\F.heap.size<y):=by
   rw[<-H]at c2 ah;have z7:w7.heap.size=(wr.alloc (.cells (zeroI 256).toArray 3)).heap.size:=by rw[H,World.size_setCell]
   have z8:(wr.alloc (.cells (zeroI 256).toArray 3)).heap.size=wr.heap.size+1:=by simp
   refine⟨c2,?_,λj hj=>?_,?_,by omega,by omega⟩
   ·have:=TC.boxed wr (zeroI 256) 3;rw[<-bt]at this;rw[q0C (g:=λ_=>0) (λc _=>by rw[if_neg (by omega)])];exact this.block (ah y (by omega))
   ·obtain⟨r1,r2,r3⟩:=T.r j hj;exact⟨(r1.block (aL.block _ r3)).block (ah _ (by omega)),r2,by omega⟩
   rw[H];exact(T.b.trans (aL.mono (by omega))).setCell (p:=⟨F.heap.size,i,none⟩) (Nat.le_refl _) _
  have a1:=hyd H;have cB:=hyd bt;obtain⟨aC,ay⟩:=nam F.heap.size;have aj:=hyd ay;rw[<-ay]at k1 k2;rw[if_neg (by omega)]at k1;clear T c1 c2 ah H bt aL ay cJ;rw[<-aj.out];go_wp2_with fail;rw[<-cB.out];clear bm k1 k2;have bP:Hid (w7=(wr.alloc (.cells (zeroI 256).toArray 3)).setCell ⟨aC,i,none⟩ (.slice (some ⟨y,0,none⟩) 256 256)):=by show _=_;rw[aj.out];exact a1.out
  rw[<-bP.out]
  go_loopw [22] (λx w'=>∃b:Nat,b<=256/\x=.int .i64 b/\TC F.heap.size (rwC (upV xb i y) (i+1) s) w'/\TC y (inl (λc=>if c<b then rwB A nx O i c else 0) 256) w'/\(∀j,j<i->TC (xb j) (inl (rwB A nx O j) 256) w'/\F.heap.size<xb j/\xb j<y)/\Below F.heap.size F w'/\y<w'.heap.size/\F.heap.size<y) (λx _=>256-(intOf x).toNat)
  ·exact⟨0,by omega,rfl,H7.out⟩
  clear H7;obtain⟨b,hb,rfl,c1,c2,c3,Bw,z1,z2⟩:=hrel;by_cases ab:b<256
  ·have bY:(b:Int)<256:=by omega
   have ao:=af.out.below Bw;obtain⟨o1,o2,o3⟩:=aZ.out;obtain⟨r,hr⟩:∃r,O[i]?=some r:=⟨_,List.getElem?_eq_getElem (by omega)⟩;have bn:O.getD i 0=r:=by rw[List.getD_eq_getElem?_getD,hr];rfl
   have cH:=o2 r (List.mem_of_getElem? hr);have co:wr.cell? ⟨oa,i,none⟩=some (.int .i64 (r:Int)):=by
    obtain⟨ad,cap,e,il⟩:=ao.o.il;cases e;obtain⟨g,o,e1,e2⟩:=il i (by rw[List.length_map];omega);cases e1;rw[Nat.zero_add]at e2;rw[e2];simp only[q3r];rw[bn]
   obtain⟨ct,_⟩:=c1 i _ (q6T _ _ ae);rw[if_pos (by omega),q0i,<-aj.out]at ct;have ag:=hyd (q6d pb N A.vd nx (reps E 256) r b wr.drew (by omega) (H4.out.2.2.2.below ao.b.drew) (by omega) ab);obtain⟨to,U⟩:=nam (toR N nx r b);rw[<-U]at ag;have cg:to<=N:=by rw[U,a8];exact(HX.out.2.2.2.2.to (by omega) ab).1
   have ce:(to:Int)<N+1:=by omega
   obtain⟨cf,_⟩:=ao.f to _ (q1l _ (show to<N+1 by omega));obtain⟨C,I⟩:=nam (frsF A to);rw[<-I]at cf;have ci:C<=N:=by
    rw[I];by_cases e:to=A.N
    ·rw[e,q6x];omega
    have:=y2n (A:=A) (i:=to) (by omega);omega
   have⟨hxN',hto3⟩:(C:Int)<N+1/\(to:Int)<(A.N:Int)+1:=by omega
   have cO:(C:Int)<(A.N:Int)+1:=by omega
   obtain⟨cn,_⟩:=ao.n C _ (q1l _ (show C<N+1 by omega));obtain⟨nv,ai⟩:=nam (numF O C);rw[<-ai]at cn;have aW:nv=rwB A nx O i b:=by unfold rwB;rw[ai,I,U,bn,a8]
   obtain⟨cV,cW⟩:=c2 b _ (q1l _ ab);have Hn:Hid (TC F.heap.size (rwC (upV xb i y) (i+1) s) (wr.setCell ⟨y,b,none⟩ (.int .i64 nv))/\TC y (inl (λc=>if c<b+1 then rwB A nx O i c else 0) 256) (wr.setCell ⟨y,b,none⟩ (.int .i64 nv))/\(∀j,j<i->TC (xb j) (inl (rwB A nx O j) 256) (wr.setCell ⟨y,b,none⟩ (.int .i64 nv))/\F.heap.size<xb j/\xb j<y)/\Below F.heap.size F (wr.setCell ⟨y,b,none⟩ (.int .i64 nv))/\y<(wr.setCell ⟨y,b,none⟩ (.int .i64 nv)).heap.size/\F.heap.size<y):=by
    have ah:∀q,q≠y->(wr.setCell ⟨y,b,none⟩ (.int .i64 nv)).heap[q]?=wr.heap[q]?:=λq hq=>Below.heap_setCell wr ⟨y,b,none⟩ _ q (λe=>hq e)
    refine⟨c1.block (ah _ (by omega)),?_,λj hj=>?_,Bw.setCell (p:=⟨y,b,none⟩) (by show _<=y;omega) _,by rw[World.size_setCell];exact z1,z2⟩
    ·have Y:=c2.set b (by rw[q1d];exact ab) (.int .i64 nv);rw[q1B]at Y;rw[q0C (g:=λc=>if c=b then nv else if c<b then rwB A nx O i c else 0) (λc _=>?_)]
     ·exact Y
     by_cases e:c=b
     ·subst e;simp[aW]
     by_cases e2:c<b
     ·simp[e,e2,show c<b+1 by omega]
     simp[e,e2,show ¬c<b+1 by omega]
    obtain⟨r1,r2,r3⟩:=c3 j hj;exact⟨r1.block (ah _ (by omega)),r2,r3⟩
   have cy:Hid ((λw'=>w'.cell? ⟨aC,i,none⟩=some (.slice (some ⟨y,0,none⟩) 256 256)/\w'.cell? ⟨oa,i,none⟩=some (.int .i64 (r:Int))/\w'.cell? ⟨fb,to,none⟩=some (.int .i64 (C:Int))/\w'.cell? ⟨fb+1,C,none⟩=some (.int .i64 nv)) (wr.setCell ⟨y,b,none⟩ (.int .i64 nv))):=by
    have q1:oa<F.heap.size:=by
     obtain⟨ad,cap,e,il⟩:=af.out.o.il;cases e;obtain⟨g,o,e1,e2⟩:=il i (by rw[List.length_map];omega);cases e1;exact World.block_lt_of_cell? _ _ e2
    have q2:=af.out.z;have q3:=aj.out;refine⟨?_,?_,?_,?_⟩
    ·rw[World.cell?_setCell_far _ _ _ _ (by show y≠aC;omega)];exact ct
    ·rw[World.cell?_setCell_far _ _ _ _ (by show y≠oa;omega)];exact co
    ·rw[World.cell?_setCell_far _ _ _ _ (by show y≠fb;omega)];exact cf
    rw[World.cell?_setCell_far _ _ _ _ (by show y≠fb+1;omega)];exact cn
   clear c1 c2 c3 Bw ao o1 o2 o3 hr bn U I ai aW;go_wp2_with fail;have bV:(λw'=>w'.cell? ⟨aC,i,none⟩=some (.slice (some ⟨y,0,none⟩) 256 256)/\w'.cell? ⟨oa,i,none⟩=some (.int .i64 (r:Int))/\w'.cell? ⟨fb,to,none⟩=some (.int .i64 (C:Int))/\w'.cell? ⟨fb+1,C,none⟩=some (.int .i64 nv)) wr.drew:=⟨ct,co,cf,cn⟩;refine wp_region_held_drew (S:=λw'=>w'.cell? ⟨aC,i,none⟩=some (.slice (some ⟨y,0,none⟩) 256 256)/\w'.cell? ⟨oa,i,none⟩=some (.int .i64 (r:Int))/\w'.cell? ⟨fb,to,none⟩=some (.int .i64 (C:Int))/\w'.cell? ⟨fb+1,C,none⟩=some (.int .i64 nv)) (by kernel_rfl) bV (λhHeld=>?_);refine wpAnyH_take (i:=0) (oi:=?oQ0) (v:=?vQ0) ?hiQ0 ?hsQ0 ?hfQ0 ?hrQ0 ?hQQ0 (Or.inl ⟨?hwQ0,?hyQ0⟩) ?hSQ0 ?restQ0
   case hiQ0=>simp only[List.getElem?_toArray,List.getElem?_cons_zero];rfl
   case hsQ0=>kernel_rfl
   case hfQ0=>kernel_rfl
   case hrQ0=>kernel_rfl
   case hQQ0=>exact λ_ _ _ h=>h
   case hSQ0=>assumption
   case hwQ0=>rfl
   case hyQ0=>intro w' d;obtain⟨Q,P,V,J⟩:=d;go_simp;first|done|with_reducible rfl
   (try simp only[psm])
   refine wpAnyH_take (i:=1) (by simp only[gel];rfl) (by kernel_rfl) (by kernel_rfl) (by kernel_rfl) (by exact λ_ _ _ h=>h) (Or.inl ⟨by rfl,by intro w' d;obtain⟨Q,P,V,J⟩:=d;go_simp;first|done|with_reducible rfl⟩) (by assumption) ?_
   (try simp only[psm])
   refine wpAnyH_take (i:=2) (by simp only[gel];rfl) (by kernel_rfl) (by kernel_rfl) (by kernel_rfl) (by exact λ_ _ _ h=>h) (Or.inl ⟨by rfl,by intro w' d;obtain⟨Q,P,V,J⟩:=d;go_simp;first|done|with_reducible rfl⟩) (by assumption) ?_
   (try simp only[psm])
   refine wpAnyH_take (i:=3) (by simp only[gel];rfl) (by kernel_rfl) (by kernel_rfl) (by kernel_rfl) (by exact λ_ _ _ h=>h) (Or.inl ⟨by rfl,by intro w' d;obtain⟨Q,P,V,J⟩:=d;go_simp;first|done|with_reducible rfl⟩) (by assumption) ?_
   (try simp only[psm])
   refine wpAnyH_take (i:=4) (by simp only[gel];rfl) (by kernel_rfl) (by kernel_rfl) (by kernel_rfl) (by exact λ_ _ _ h=>h) (Or.inl ⟨by rfl,by intro w' d;obtain⟨Q,P,V,J⟩:=d;go_simp;first|done|with_reducible rfl⟩) (by assumption) ?_
   (try simp only[psm])
   refine wpAnyH_take (i:=5) (by simp only[gel];rfl) (by kernel_rfl) (by kernel_rfl) (by kernel_rfl) (by exact λ_ _ _ h=>h) (Or.inl ⟨by rfl,by intro w' d;obtain⟨Q,P,V,J⟩:=d;go_simp;first|done|with_reducible rfl⟩) (by assumption) ?_
   (try simp only[psm])
   refine wpAnyH_take (i:=6) (by simp only[gel];rfl) (by kernel_rfl) (by kernel_rfl) (by kernel_rfl) (by exact λ_ _ _ h=>h) (Or.inl ⟨by rfl,by intro w' d;obtain⟨Q,P,V,J⟩:=d;go_simp;first|done|with_reducible rfl⟩) (by assumption) ?_
   (try simp only[psm])
   refine wpAnyH_take (i:=7) (by simp only[gel];rfl) (by kernel_rfl) (by kernel_rfl) (by kernel_rfl) (by exact λ_ _ _ h=>h) (Or.inl ⟨by rfl,by intro w' d;obtain⟨Q,P,V,J⟩:=d;go_simp;first|done|with_reducible rfl⟩) (by assumption) ?_
   (try simp only[psm])
   refine wpAnyH_take (i:=8) (by simp only[gel];rfl) (by kernel_rfl) (by kernel_rfl) (by kernel_rfl) (by exact λ_ _ _ h=>h) (Or.inl ⟨by rfl,by intro w' d;obtain⟨Q,P,V,J⟩:=d;go_simp;first|done|with_reducible rfl⟩) (by assumption) ?_
   (try simp only[psm])
   refine wpAnyH_take (i:=9) (by simp only[gel];rfl) (by kernel_rfl) (by kernel_rfl) (by kernel_rfl) (by exact λ_ _ _ h=>h) (Or.inl ⟨by rfl,by intro w' d;obtain⟨Q,P,V,J⟩:=d;go_simp;first|done|with_reducible rfl⟩) (by assumption) ?_
   (try simp only[psm])
   refine wpAnyH_take (i:=10) (by simp only[gel];rfl) (by kernel_rfl) (by kernel_rfl) (by kernel_rfl) (by exact λ_ _ _ h=>h) (Or.inl ⟨by rfl,by intro w' d;obtain⟨Q,P,V,J⟩:=d;go_simp;first|done|with_reducible rfl⟩) (by assumption) ?_
   (try simp only[psm])
   refine wpAnyH_take (i:=11) (by simp only[gel];rfl) (by kernel_rfl) (by kernel_rfl) (by kernel_rfl) (by exact λ_ _ _ h=>h) (Or.inl ⟨by rfl,by intro w' d;obtain⟨Q,P,V,J⟩:=d;go_simp;first|done|with_reducible rfl⟩) (by assumption) ?_
   (try simp only[psm])
   refine wpAnyH_take (i:=12) (by simp only[gel];rfl) (by kernel_rfl) (by kernel_rfl) (by kernel_rfl) (by exact λ_ _ _ h=>h) (Or.inl ⟨by rfl,by intro w' d;obtain⟨Q,P,V,J⟩:=d;go_simp;first|done|with_reducible rfl⟩) (by assumption) ?_
   (try simp only[psm])
   refine wpAnyH_ready (rs:=[13]) (by kernel_rfl) (by simp) ?_;refine AllReadyH.cons (o:=?oQ13) ?hiQ13 (λK hK=>?_) AllReadyH.nil
   case hiQ13=>simp only[gel];rfl
   go_simp;refine Calls.mono ag.out ?_;rintro e w8 ⟨rfl,rfl⟩;go_wp2_with fail;refine hK.out _ _ bV (λhHeld=>?_);clear hK K
   (try simp only[psm])
   refine wpAnyH_take (i:=14) (by simp only[gel];rfl) (by kernel_rfl) (by kernel_rfl) (by kernel_rfl) (by exact λ_ _ _ h=>h) (Or.inl ⟨by rfl,by intro w' d;obtain⟨Q,P,V,J⟩:=d;go_simp;first|done|with_reducible rfl⟩) (by assumption) ?_
   (try simp only[psm])
   refine wpAnyH_take (i:=15) (by simp only[gel];rfl) (by kernel_rfl) (by kernel_rfl) (by kernel_rfl) (by exact λ_ _ _ h=>h) (Or.inl ⟨by rfl,by intro w' d;obtain⟨Q,P,V,J⟩:=d;go_simp;first|done|with_reducible rfl⟩) (by assumption) ?_
   (try simp only[psm])
   refine wpAnyH_take (i:=16) (by simp only[gel];rfl) (by kernel_rfl) (by kernel_rfl) (by kernel_rfl) (by exact λ_ _ _ h=>h) (Or.inl ⟨by rfl,by intro w' d;obtain⟨Q,P,V,J⟩:=d;go_simp;first|done|with_reducible rfl⟩) (by assumption) ?_
   (try simp only[psm])
   refine wpAnyH_take (i:=17) (by simp only[gel];rfl) (by kernel_rfl) (by kernel_rfl) (by kernel_rfl) (by exact λ_ _ _ h=>h) (Or.inl ⟨by rfl,by intro w' d;obtain⟨Q,P,V,J⟩:=d;go_simp;first|done|with_reducible rfl⟩) (by assumption) ?_
   (try simp only[psm])
   refine wpAnyH_take (i:=18) (by simp only[gel];rfl) (by kernel_rfl) (by kernel_rfl) (by kernel_rfl) (by exact λ_ _ _ h=>h) (Or.inl ⟨by rfl,by intro w' d;obtain⟨Q,P,V,J⟩:=d;go_simp;first|done|with_reducible rfl⟩) (by assumption) ?_
   (try simp only[psm])
   refine wpAnyH_ready (rs:=[19]) (by kernel_rfl) (by simp) ?_;refine AllReadyH.cons (o:=?oQ19) ?hiQ19 (λK hK=>?_) AllReadyH.nil
   case hiQ19=>simp only[gel];rfl
   go_simp;refine hK.out _ _ cy.out (λhHeld=>?_);clear hK K
   (try simp only[psm])
   refine wpAnyH_done (by kernel_rfl) ?_ _;go_wp2_with fail
   (try simp only[Act.put])
   go_roundw
   ·exact⟨b+1,by omega,by go_num,Hn.out.1,Hn.out.2.1,Hn.out.2.2.1,Hn.out.2.2.2.1.drew,Hn.out.2.2.2.2.1,Hn.out.2.2.2.2.2⟩
   simp[intOf];omega
  have⟨hge3,hb2⟩:¬(b:Int)<256/\b=256:=by omega
  subst hb2;have bJ:Hid (RT F (upV xb i y) (i+1) s (rwB A nx O) wr):=by
   refine⟨c1,λj hj=>?_,Bw,by omega⟩;by_cases e:j=i
   ·subst e;rw[q0i];refine⟨?_,z2,z1⟩;rw[q0C (g:=λc=>if c<256 then rwB A nx O j c else 0) (λc hc=>by rw[if_pos hc])];exact c2
   rw[q0f _ _ e];obtain⟨r1,r2,r3⟩:=c3 j (by omega);exact⟨r1,r2,by omega⟩
  clear c1 c2 c3 Bw;go_wp2_with fail;go_roundw
  ·exact⟨i+1,_,by omega,by go_num,bJ.out⟩
  simp[intOf];omega
 have⟨hge2,hio⟩:¬(i:Int)<s/\i=s:=by omega
 rw[hio]at T hge2 ⊢;clear hio;obtain⟨o1,o2,o3⟩:=aZ.out;have cI:=H4.out.2.2.1;have ck:=af.out.b.size;have ap:=af.out.b.trans (T.b.mono ck);have P5:=H4.out.2.2.2.below ap;have I5:IL (some ⟨oa,0,none⟩) (λi=>((O.getD i 0:Nat):Int)) O.length wr:=by
  obtain⟨ad,cap,e,il⟩:=(af.out.below T.b).o.il;cases e;rw[List.length_map]at il;intro i hi;obtain⟨g,o,e1,e2⟩:=il i hi;exact⟨g,o,e1,by rw[e2];simp only[q3r]⟩
 have R5:RwB (some ⟨F.heap.size,0,none⟩) O.length (rwB A nx O) wr:=by rw[<-o3];exact T.rwb
 have cr:Hid (Calls Tryz.prog 31 #[.pointer (some ⟨pb,0,none⟩),.int .i64 n,.slice (some ⟨oa,0,none⟩) s oc,.slice (some ⟨F.heap.size,0,none⟩) s s] wr (MaR n O (rwB A nx O) A.vd wr)):=by
  have:=cu.out wr pb A.vd nx (reps E 256) N (some ⟨oa,0,none⟩) oc O (some ⟨F.heap.size,0,none⟩) s (rwB A nx O) P5 I5 R5 (by omega) (by omega) o2;rw[<-o3]at this;exact this
 have T5:TC w.heap.size macZ wr:=H4.out.1.block (ap.block _ (by omega));have an:Below w.heap.size w wr:=H4.out.2.1.trans (ap.mono (by omega));have a0:Hid (TC w.heap.size macZ wr/\Below w.heap.size w wr/\w.heap.size<wr.heap.size):=⟨T5,an,by have:=ap.size;omega⟩;clear T cI ck ap P5 I5 R5 T5 an o1 o2 o3;go_wp2_with fail
 with_reducible refine cr.out.mono ?_
 rintro e w9 ⟨B9,MI⟩;have cC:=MI;obtain⟨ca,cc,la,lc,na,nc,rfl,_⟩:=cC;obtain⟨T5,an,z5⟩:=a0.out;obtain⟨o1,o2,o3⟩:=aZ.out;have T9:TC w.heap.size macZ w9:=T5.block (B9.block _ z5);have bA:Below w.heap.size w w9:=an.trans (B9.mono (by omega));obtain⟨tz,BX,B,hG⟩:=q1e (.int .i64 n) (.slice ca 256 cc) (.slice la O.length lc) (.slice na (O.length*cnt (Cl (rwB A nx O) O.length) 256) nc) T9 bA;have HR:Hid (RBPost es n w (.returned (.tuple #[.agg #[.int .i64 n,.slice ca 256 cc,.slice la O.length lc,.slice na (O.length*cnt (Cl (rwB A nx O) O.length) 256) nc],.int .i64 0])) (w9.setCells w.heap.size 0 [.int .i64 n,.slice ca 256 cc,.slice la O.length lc,.slice na (O.length*cnt (Cl (rwB A nx O) O.length) 256) nc])):=by
  refine⟨BX,Or.inr ⟨l,t,A,nx,O,HX.out.2.1,HX.out.1,HX.out.2.2.1,o1,Or.inr ⟨by rw[<-o3];exact bQ,_,wr.heap.size,rfl,MI.heap (λk hk hl=>?_)⟩⟩⟩;exact hG.block k hl (λe=>by have:=Option.some.inj e;omega)
 obtain⟨vn,bp⟩:=nam (O.length*cnt (Cl (rwB A nx O) O.length) 256);rw[<-bp]at B HR;rw[<-bp];obtain⟨WX,L⟩:=nam (w9.setCells w.heap.size 0 [.int .i64 n,.slice ca 256 cc,.slice la O.length lc,.slice na vn nc]);rw[<-L]at B HR;have av:=hyd L;have Z:=hyd B;clear L B hG BX MI T5 an T9 bA B9 o1 o2 o3 bp;go_wp2_with (first|(with_reducible refine gst 25 ?_;refine Stop.out ?_));refine⟨?_⟩;refine wpList_store_mid rfl 25 _ _ rfl w.heap.size 0 #[.int .i64 n,.slice ca 256 cc,.slice la O.length lc,.slice na vn nc] rfl rfl tz q0D (by simp[Value.oneCell']) ?_;rw[List.toList_toArray,<-av.out];go_wp2_with fail;exact bodyPost_ret (v:=.tuple #[.agg #[.int .i64 n,.slice ca 256 cc,.slice la O.length lc,.slice na vn nc],.int .i64 0]) (q0L Tryz.results10 rfl Z.out rfl) rfl HR.out
end Go.Proofs.YtoaaklhpmhjhkaaGreat
