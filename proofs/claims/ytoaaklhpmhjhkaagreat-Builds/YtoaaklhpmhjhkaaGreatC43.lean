import Derived.Test.YtoaaklhpmhjhkaaGreatC42
set_option maxRecDepth 100000
set_option maxHeartbeats 4000000
set_option linter.all false
namespace Go.Proofs.YtoaaklhpmhjhkaaGreat
open Go.RowKit
open Bm
theorem y3i (rw:Nat->Nat->Int) (S a b:Nat):Cl rw (S+1) a b=(Cl rw S a b&&(rw S a==rw S b)):=by simp[Cl,List.range_succ]
theorem y3h (rw:Nat->Nat->Int) (S a b:Nat):Cl rw S a b=Cl rw S b a:=by
 rw[Bool.eq_iff_iff,q2C,q2C];exact⟨λh s hs=>(h s hs).symm,λh s hs=>(h s hs).symm⟩
structure CK (w:World) (rules:Nat) (E:Nat->Nat->Bool) (b:Nat) (vf:Value) (lf:List Int) (w':World):Prop where
 t:TC w.heap.size macZ w'
 c:TC (w.heap.size+1) (inl (fun j=>if j<b then idxI E j else 0) 256) w'
 m:TC (w.heap.size+2) [.int .i64 rules,.slice (some ⟨w.heap.size+1,0,none⟩) 256 256,.slice none 0 0,.slice none 0 0] w'
 f:OwnL (w.heap.size+3) vf lf w'
 b:Below w.heap.size w w'
 z:w.heap.size+3<=w'.heap.size
variable {lf lf' ll ll' ln ln' : List Int}{b cap g mb n rules : Nat}{E : Nat → Nat → Bool}{ob : Obj}{v0 vc vf vl vn : Value}{W0 w w' w'' w5 : World}
theorem CK.below (h:CK w rules E b vf lf w') (hW:Below w'.heap.size w' w''):CK w rules E b vf lf w'':=by
 have a:=h.z;have:=hW.size;exact⟨h.t.block (hW.block _ (by omega)),h.c.block (hW.block _ (by omega)),h.m.block (hW.block _ (by omega)),h.f.below hW,h.b.trans (hW.mono h.b.size),by omega⟩
theorem CK.app (h:CK w rules E b vf lf w') (h5:OwnL (w.heap.size+3) (.slice (some ⟨g,0,none⟩) n cap) lf' w5) (hg:(w'.alloc ob).grownBy w5 vf.ownBlock):CK w rules E b (.slice (some ⟨g,0,none⟩) n cap) lf' w5:=by
 have x:=box_bel w' ob;have a:=h.below x;have j:=a.z;have hs:=hg.size;have d:=h.f.blk;exact⟨a.t.block (hg.block _ (by omega) (λe=>by have:=(d _ e.symm).1;omega)),a.c.block (hg.block _ (by omega) (λe=>by have:=(d _ e.symm).1;omega)),a.m.block (hg.block _ (by omega) (λe=>by have:=(d _ e.symm).1;omega)),h5,a.b.grown hg a.b.size (λq i=>by have:=(d q i).1;omega),by omega⟩
theorem CK.set (h:CK w rules E b vf lf w') (hb:b<256):CK w rules E (b+1) vf lf (w'.setCell ⟨w.heap.size+1,b,none⟩ (.int .i64 (idxI E b))):=by
 have n:=h.z;have d:=h.f.blk;have a:∀q,q≠w.heap.size+1->(w'.setCell ⟨w.heap.size+1,b,none⟩ (.int .i64 (idxI E b))).heap[q]?=w'.heap[q]?:=λq l=>Below.heap_setCell w' ⟨w.heap.size+1,b,none⟩ _ q (λe=>l e)
 refine⟨h.t.block (a _ (by omega)),?_,h.m.block (a _ (by omega)),h.f.keep (λk j=>a k (by have:=(d k j).1;omega)),h.b.setCell (p:=⟨w.heap.size+1,b,none⟩) (by show _<=w.heap.size+1;omega) _,by rw[World.size_setCell];exact n⟩;have i:=h.c.set b (by rw[q1d];exact hb) (.int .i64 (idxI E b));rw[q1B]at i;rw[q0C (g:=λc=>if c=b then idxI E b else if c<b then idxI E c else 0) (λc _=>?_)]
 ·exact i
 by_cases e:c=b
 ·subst e;simp
 by_cases e2:c<b
 ·simp[e,e2,show c<b+1 by omega]
 simp[e,e2,show ¬c<b+1 by omega]
structure MR (mb:Nat) (W0:World) (v0 vc vl vn:Value) (ll ln:List Int) (w':World):Prop where
 c:TC mb [v0,vc,vl,vn] w'
 ol:OwnL W0.heap.size vl ll w'
 on:OwnL W0.heap.size vn ln w'
 n3:∀k,vl.ownBlock=some k->vn.ownBlock≠some k
 b:Below mb W0 w'
 k:∀k,k<W0.heap.size->k≠mb->w'.heap[k]?=W0.heap[k]?
theorem MR.below (h:MR mb W0 v0 vc vl vn ll ln w') (hW:Below w'.heap.size w' w'') (hm:mb<W0.heap.size):MR mb W0 v0 vc vl vn ll ln w'':=
 ⟨h.c.below hW,h.ol.below hW,h.on.below hW,h.n3,h.b.trans (hW.mono (by have:=h.b.size;omega)),λk a d=>by rw[hW.block k (by have:=h.b.size;omega)];exact h.k k a d⟩
theorem MR.putL (h:MR mb W0 v0 vc vl vn ll ln w') (hm:mb<W0.heap.size) (h5:OwnL W0.heap.size (.slice (some ⟨g,0,none⟩) n cap) ll' w5) (hg:(w'.alloc ob).grownBy w5 vl.ownBlock) (hgb:vl.ownBlock=some g\/g=(w'.alloc ob).heap.size):
  w5.cell? ⟨mb,2,none⟩=some vl/\w5.frozen? ⟨mb,2,none⟩=false/\MR mb W0 v0 vc (.slice (some ⟨g,0,none⟩) n cap) vn ll' ln (w5.setCell ⟨mb,2,none⟩ (.slice (some ⟨g,0,none⟩) n cap)):=by
 have x:=box_bel w' ob;have s:(w'.alloc ob).heap.size=w'.heap.size+1:=by simp
 have a:=h.below x hm;have j:=h.ol.blk;have l:=h.on.blk;have hs:=h.b.size;have d:=a.c.block (hg.block _ a.c.lt (λe=>by have:=(j _ e.symm).1;omega));obtain⟨c1,c2⟩:=d 2 _ rfl;have i:∀q,q≠mb->(w5.setCell ⟨mb,2,none⟩ (.slice (some ⟨g,0,none⟩) n cap)).heap[q]?=w5.heap[q]?:=λq f=>Below.heap_setCell w5 ⟨mb,2,none⟩ _ q (λe=>f e)
 have r:=(h5.blk g rfl).1;refine⟨c1,c2,d.set 2 (by simp) _,h5.keep (λq f=>i q (by cases f;show g≠mb;omega)),(a.on.grown hg (λq f e=>h.n3 q e f)).keep (λq f=>i q (λe=>by have:=(l q f).1;omega)),λq f e=>?_,?_,λq m o=>?_⟩
 ·have e2:=Option.some.inj f;subst e2;rcases hgb with m|m
  ·exact h.n3 g m e
  have:=(l g e).2;omega
 ·exact(a.b.grown hg (by have:=a.b.size;omega) (λq f=>by have:=(j q f).1;omega)).setCell (p:=⟨mb,2,none⟩) (Nat.le_refl _) _
 rw[i q o,hg.block q (by omega) (λe=>by have:=(j q e.symm).1;omega)];exact a.k q m o
theorem MR.putN (h:MR mb W0 v0 vc vl vn ll ln w') (hm:mb<W0.heap.size) (h5:OwnL W0.heap.size (.slice (some ⟨g,0,none⟩) n cap) ln' w5) (hg:(w'.alloc ob).grownBy w5 vn.ownBlock) (hgb:vn.ownBlock=some g\/g=(w'.alloc ob).heap.size):
  w5.cell? ⟨mb,3,none⟩=some vn/\w5.frozen? ⟨mb,3,none⟩=false/\MR mb W0 v0 vc vl (.slice (some ⟨g,0,none⟩) n cap) ll ln' (w5.setCell ⟨mb,3,none⟩ (.slice (some ⟨g,0,none⟩) n cap)):=by
 have x:=box_bel w' ob;have s:(w'.alloc ob).heap.size=w'.heap.size+1:=by simp
 have a:=h.below x hm;have j:=h.on.blk;have l:=h.ol.blk;have hs:=h.b.size;have f:=a.c.block (hg.block _ a.c.lt (λe=>by have:=(j _ e.symm).1;omega));obtain⟨c1,c2⟩:=f 3 _ rfl;have i:∀q,q≠mb->(w5.setCell ⟨mb,3,none⟩ (.slice (some ⟨g,0,none⟩) n cap)).heap[q]?=w5.heap[q]?:=λq d=>Below.heap_setCell w5 ⟨mb,3,none⟩ _ q (λe=>d e)
 have r:=(h5.blk g rfl).1;refine⟨c1,c2,f.set 3 (by simp) _,(a.ol.grown hg (λq d e=>h.n3 q d e)).keep (λq d=>i q (λe=>by have:=(l q d).1;omega)),h5.keep (λq d=>i q (by cases d;show g≠mb;omega)),λq d e=>?_,?_,λq m o=>?_⟩
 ·have e2:=Option.some.inj e;subst e2;rcases hgb with m|m
  ·exact h.n3 g d m
  have:=(l g d).2;omega
 ·exact(a.b.grown hg (by have:=a.b.size;omega) (λq d=>by have:=(j q d).1;omega)).setCell (p:=⟨mb,3,none⟩) (Nat.le_refl _) _
 rw[i q o,hg.block q (by omega) (λe=>by have:=(j q e.symm).1;omega)];exact a.k q m o
theorem MR.cell (h:MR mb W0 v0 vc vl vn ll ln w') {a o:Nat}{v:Value} (hc:W0.cell? ⟨a,o,none⟩=some v) (ha:a≠mb):w'.cell? ⟨a,o,none⟩=some v:=by
 rw[World.cell?_of_block (w:=W0) (a:=⟨a,o,none⟩) (h.k a (World.block_lt_of_cell? W0 _ hc) ha)];exact hc
def labO (vd:Nat->Int) (O:List Nat) (i:Nat):List Int:=(List.range i).map λs=>vd (O.getD s 0)
theorem y0y (vd:Nat->Int) (O:List Nat) (i:Nat):labO vd O (i+1)=labO vd O i++[vd (O.getD i 0)]:=by simp[labO,List.range_succ]
theorem q4e (vd:Nat->Int) (O:List Nat) (i:Nat):(labO vd O i).length=i:=by simp[labO]
theorem y2N (vd:Nat->Int) (O:List Nat) {i n:Nat} (h:i<n):(labO vd O n).getD i 0=vd (O.getD i 0):=by simp[labO,List.getD_eq_getElem?_getD,h]
theorem q8c (pb N:Nat) (vd:Nat->Int) (nx:Nat->Nat->Int) (bs:List Nat) (oa:Option Addr) (oc:Nat) (O:List Nat) (ra:Option Addr) (rc:Nat) (rows:Nat->Nat->Int) (rules:Nat) (w:World) (hP:PLN pb N vd nx bs w) (hO:IL oa (λi=>((O.getD i 0:Nat):Int)) O.length w) (hR:RwB ra O.length rows w) (h96:O.length<=96) (hN:N<=200) (hON:∀x∈O,x<N) (hru:rules<=8):
  Calls Tryz.prog 31 #[.pointer (some ⟨pb,0,none⟩),.int .i64 rules,.slice oa O.length oc,.slice ra O.length rc] w (MaR rules O rows vd w):=by
 have hz:=q1i;have HE:=hyd (q9b rows O.length 256);obtain⟨ol,aE⟩:=nam O.length;have ar:=hyd aE;have HP:Hid (∀w',Below w.heap.size w w'->PLN pb N vd nx bs w'/\IL oa (λi=>((O.getD i 0:Nat):Int)) ol w'/\RwB ra ol rows w'):=λw' h=>by
  rw[aE];refine⟨hP.below h,hO.below h,λi hi=>?_⟩;obtain⟨b,o,xa,xc,e,c,il⟩:=hR i hi;exact⟨b,o,xa,xc,e,by rw[h.cell (p:=⟨b,o+i,none⟩) (World.block_lt_of_cell? w _ c)];exact c,il.below h⟩
 have co:=hyd hON;obtain⟨E,hE⟩:=nam (Cl rows ol);have aH:=hyd hE;rw[<-aE]at HE h96;rw[<-hE]at HE;rw[<-aE];have cG:(Instr.makeSlice 23 (.int .i64 256) (.int .i64 256)).run Tryz.prog (w.alloc (.cells #[.int .i64 0,.slice none 0 0,.slice none 0 0,.slice none 0 0] 25))=.ok (.slice (some ⟨w.heap.size+1,0,none⟩) 256 256) ((w.alloc (.cells #[.int .i64 0,.slice none 0 0,.slice none 0 0,.slice none 0 0] 25)).alloc (.cells (zeroI 256).toArray 3)):=by
  have:=q1M (w.alloc (.cells #[.int .i64 0,.slice none 0 0,.slice none 0 0,.slice none 0 0] 25)) 256 (by omega);rw[World.size_alloc]at this;exact this
 obtain⟨Wa,ax⟩:=nam (w.alloc (.cells #[.int .i64 0,.slice none 0 0,.slice none 0 0,.slice none 0 0] 25));obtain⟨Wb,ay⟩:=nam (Wa.alloc (.cells (zeroI 256).toArray 3));obtain⟨Wc,az⟩:=nam (Wb.alloc (.cells #[.int .i64 (rules:Int),.slice (some ⟨w.heap.size+1,0,none⟩) 256 256,.slice none 0 0,.slice none 0 0] 25));have za:Wa.heap.size=w.heap.size+1:=by rw[ax];simp
 have zb:Wb.heap.size=w.heap.size+2:=by rw[ay];simp[za]
 have zc:Wc.heap.size=w.heap.size+3:=by rw[az];simp[zb]
 have xa:Below w.heap.size w Wa:=by rw[ax];exact box_bel _ _
 have xb:Below Wa.heap.size Wa Wb:=by rw[ay];exact box_bel _ _
 have xc:Below Wb.heap.size Wb Wc:=by rw[az];exact box_bel _ _
 have Ta:TC w.heap.size macZ Wa:=by rw[ax];exact TC.boxed w macZ _
 have Tb:TC (w.heap.size+1) (zeroI 256) Wb:=by rw[ay,<-za];exact TC.boxed Wa (zeroI 256) _
 have Tc:TC (w.heap.size+2) [.int .i64 (rules:Int),.slice (some ⟨w.heap.size+1,0,none⟩) 256 256,.slice none 0 0,.slice none 0 0] Wc:=by rw[az,<-zb];exact TC.boxed Wb [.int .i64 (rules:Int),.slice (some ⟨w.heap.size+1,0,none⟩) 256 256,.slice none 0 0,.slice none 0 0] _
 have C0:CK w rules E 0 (.slice none 0 0) (firstL E 0) Wc:=by
  refine⟨(Ta.block (xb.block _ (by omega))).block (xc.block _ (by omega)),?_,Tc,OwnL.nil _ _,(xa.trans (xb.mono (by omega))).trans (xc.mono (by omega)),by omega⟩;rw[q0C (g:=λ_=>0) (λc _=>by rw[if_neg (by omega)])];exact Tb.block (xc.block _ (by omega))
 have bE:=hyd C0;have bI:Hid (Wc=((w.alloc (.cells #[.int .i64 0,.slice none 0 0,.slice none 0 0,.slice none 0 0] 25)).alloc (.cells (zeroI 256).toArray 3)).alloc (.cells #[.int .i64 (rules:Int),.slice (some ⟨w.heap.size+1,0,none⟩) 256 256,.slice none 0 0,.slice none 0 0] 25)):=by show _=_;rw[az,ay,ax]
 clear hP hO hR hON aE hE ax ay az za zb zc xa xb xc Ta Tb Tc C0;go_enter Tryz.func31,Tryz.ntmps31;go_wp2_with fail;clear cG;rw[<-bI.out];clear bI;obtain⟨J,bV⟩:=nam (w.heap.size+1);have aJ:=hyd bV;obtain⟨mb,bw⟩:=nam (w.heap.size+2);have U:=hyd bw;rw[<-bw];clear bV bw
 go_loopw [10,11] (λvf x w'=>∃b:Nat,b<=256/\x=.int .i64 b/\CK w rules E b vf (firstL E b) w') (λ_ x _=>256-(intOf x).toNat)
 ·exact⟨0,by omega,rfl,bE.out⟩
 clear bE;obtain⟨b,hb,rfl,u⟩:=hrel;by_cases aA:b<256
 ·have cO:(b:Int)<256:=by omega
  obtain⟨fa,fc,aX,_⟩:=u.f.il;subst aX;rw[q0u]at u;rw[q0u];have Y:=rep_new HE.out aA;obtain⟨id,br⟩:=nam (idx E b);rw[<-br]at Y;have a0:=hyd br;clear br;have bo:=cnt_le E b;obtain⟨I,X⟩:=nam (cnt E b);have ap:=hyd X;rw[<-X]at Y bo u ⊢;clear X;have aZ:=hyd Y.1;have cQ:=Y.2;have aT:(I:Int)<256:=by omega
  clear Y;have B:=hyd u;clear u;go_wp2_with fail
  go_loopw [12,13] (λc k w'=>∃(kk cv:Nat) (ki:Int),kk<=I/\ki=(kk:Int)-1/\k=.int .i64 ki/\c=.int .i64 cv/\(kk<=id->cv=id)/\(¬kk<=id->cv=I)/\CK w rules E b (.slice fa I fc) (firstL E b) w') (λ_ k _=>(intOf k+1).toNat)
  ·exact⟨I,I,(I:Int)-1,by omega,rfl,rfl,rfl,λh=>by omega,λ_=>rfl,B.out⟩
  clear B;obtain⟨kk,cv,ki,cX,bZ,rfl,rfl,aj,aB,u⟩:=hrel;by_cases cW:0<kk
  ·obtain⟨j,rfl⟩:∃j,kk=j+1:=⟨kk-1,by omega⟩;have b0:ki=(j:Int):=by omega
   subst b0;have cV:(j:Int)<I:=by omega
   have aU:(0:Int)<=j:=by omega
   obtain⟨r,hr⟩:∃r,(reps E b)[j]?=some r:=⟨(reps E b)[j]'(by have:=ap.out;unfold cnt at this;omega),List.getElem?_eq_getElem _⟩;have cH:=reps_mem hr;have bz:r<256:=by omega
   have ck:(r:Int)<256:=by omega
   have bv:=rep_like HE.out aA hr;rw[<-a0.out]at bv;have bP:=hyd bv;have aC:(firstL E b).getD j 0=(r:Int):=by simp[firstL,List.getD_eq_getElem?_getD,hr]
   have ct:Hid (∀w',CK w rules E b (.slice fa I fc) (firstL E b) w'->∃g o,fa=some ⟨g,o,none⟩/\w'.cell? ⟨g,o+j,none⟩=some (.int .i64 (r:Int))):=λw' h=>by
    obtain⟨cU,cM,aF,b9⟩:=h.f.il;have cI:=(Value.slice.inj aF).1;rw[<-cI]at b9;obtain⟨g,o,e,c2⟩:=b9 j (by rw[q0u,<-ap.out];omega);simp only[aC]at c2;exact⟨g,o,e,c2⟩
   have bL:=hyd2 aj aB;have B:=hyd u;clear bv hr cH aC aj aB bZ u;go_wp2_with fail
   go_loopw [14,15] (λs x w'=>∃(i:Nat) (sv:Bool),i<=ol/\x=.int .i64 i/\s=.bool sv/\sv=Cl rows i b r/\CK w rules E b (.slice fa I fc) (firstL E b) w') (λ_ x _=>ol-(intOf x).toNat)
   ·exact⟨0,true,by omega,rfl,rfl,rfl,B.out⟩
   clear B;obtain⟨i,sv,hi,rfl,rfl,aW,u⟩:=hrel;by_cases cD:i<ol
   ·have cR:(i:Int)<ol:=by omega
    obtain⟨_,_,bT⟩:=HP.out wr u.b;obtain⟨rb,ro,xa,xc,be,aM,ao⟩:=bT i cD;subst be;obtain⟨xb,xo,bf,cu⟩:=ao b aA;subst bf;obtain⟨c8,c9,bS,cw⟩:=ao r bz;cases bS;obtain⟨fg,fo,aN,cf⟩:=ct.out wr u;subst aN;obtain⟨v1,bA⟩:=nam (rows i b);obtain⟨v2,aF⟩:=nam (rows i r);have bK:Hid (Cl rows (i+1) b r=(sv&&(v1==v2))):=by show _=_;rw[y3i,<-aW,bA,aF]
    rw[<-bA]at cu;rw[<-aF]at cw;have B:=hyd u;clear u bT ao bA aF aW;cases sv
    ·go_wp2_with fail
     go_quiet (fail)
     go_wp2_with fail;go_roundw
     ·exact⟨i+1,false,by omega,by go_num,rfl,by rw[bK.out];rfl,B.out.below (q1w _ _ _)⟩
     simp[intOf];omega
    go_wp2_with fail
    go_quiet (fail)
    go_wp2_with fail;go_roundw
    ·exact⟨i+1,v1==v2,by omega,by go_num,rfl,by rw[bK.out,Bool.true_and],B.out.below (q1w _ _ _)⟩
    simp[intOf];omega
   have⟨hge2,hio⟩:¬(i:Int)<ol/\i=ol:=by omega
   have hs2:sv=E r b:=by rw[aW,hio,y3h,aH.out]
   have B:=hyd u;clear u aW hio;cases sv
   ·have cY:j≠id:=λe=>by have:=bP.out.2 e;rw[<-hs2]at this;cases this
    clear hs2;go_wp2_with fail;go_roundw
    ·exact⟨j,cv,(j:Int)-1,by omega,rfl,by go_num,rfl,λh=>bL.out.1 (by omega),λh=>bL.out.2 (by omega),B.out⟩
    simp[intOf]
   have bO:=hyd (bP.out.1 hs2.symm);clear hs2;go_wp2_with fail;go_roundw
   ·exact⟨j,j,(j:Int)-1,by omega,rfl,by go_num,rfl,λ_=>bO.out,λh=>by have:=bO.out;omega,B.out⟩
   simp[intOf]
  have cE:kk=0:=by omega
  subst cE;have aU:¬(0:Int)<=ki:=by omega
  have bW:cv=id:=aj (by omega);subst bW;clear bZ;have a2:Hid (∀(v:Value) (l:List Int) (w':World),CK w rules E b v l w'->w'.cell? ⟨mb,1,none⟩=some (.slice (some ⟨J,0,none⟩) 256 256)/\w'.cell? ⟨J,b,none⟩=some (.int .i64 0)/\w'.frozen? ⟨J,b,none⟩=false/\CK w rules E (b+1) v l (w'.setCell ⟨J,b,none⟩ (.int .i64 (cv:Int)))):=λv l w' h=>by
   have h1:=(h.m 1 _ rfl).1;obtain⟨h2,h3⟩:=h.c b _ (q1l _ aA);rw[if_neg (by omega)]at h2;have h4:=h.set aA;unfold idxI at h4;rw[<-a0.out]at h4;rw[U.out,aJ.out];exact⟨h1,h2,h3,h4⟩
  by_cases ah:cv=I
  ·have q1:((cv:Int)==(I:Int))=true:=by simp[ah]
   have hx:=box_bel wr (.cells #[.int .i64 (b:Int)] 3);have aP:=u.f.below hx;have aa:(wr.alloc (.cells #[.int .i64 (b:Int)] 3)).cell? ⟨wr.heap.size,0,none⟩=some (.int .i64 (b:Int)):=by rw[World.cell?_alloc_new];rfl
   have W:=Nat.le_trans u.z hx.size;have B:=hyd u;have M:=q0u E b;rw[<-ap.out]at M;have bM:=hyd M;have e2:firstL E b++[(b:Int)]=firstL E (b+1):=by rw[q1t,if_pos (aZ.out.1 ah)]
   have cr:=hyd e2;clear u hx M e2 ah aj aB;go_wp2_with (first|(at_builtin;refine Bm.wpList_append_int (by rfl) _ _ (by rfl) (w.heap.size+3) (.slice fa I fc) (firstL E b) (by rfl) aP (by rw[bM.out];omega) wr.heap.size (b:Int) (by rfl) aa W _ rfl ?_;rw[bM.out];intro g cap w5 bj d cC cF;refine Stop.out ?_));refine⟨?_⟩;rw[cr.out]at bj;have C5:=B.out.app bj d;obtain⟨y1,y2,y3,y4⟩:=a2.out _ _ w5 C5;have a8:=hyd y4;clear C5 y4 bj d cC cF aP aa W B
   (try simp only[psm])
   go_wp2_with fail;go_roundw
   ·exact⟨b+1,by omega,by go_num,a8.out⟩
   simp[intOf];omega
  have q1:((cv:Int)==(I:Int))=false:=by simp;omega
  have b5:least E b≠b:=λe=>ah (aZ.out.2 e)
  have e2:firstL E (b+1)=firstL E b:=by rw[q1t,if_neg b5,List.append_nil]
  rw[<-e2]at u;obtain⟨y1,y2,y3,y4⟩:=a2.out _ _ wr u;have a8:=hyd y4;clear u y4 e2;go_wp2_with fail;go_roundw
  ·exact⟨b+1,by omega,by go_num,a8.out⟩
  simp[intOf];omega
 have⟨aU,hb2⟩:¬(b:Int)<256/\b=256:=by omega
 subst hb2;obtain⟨W0,bU⟩:=nam wr;rw[<-bU]at u ⊢;clear bU wr;have an:mb<W0.heap.size:=by have:=u.z;have:=U.out;omega
 obtain⟨fa,fc,aX,al⟩:=u.f.il;obtain⟨T,bY⟩:=nam (reps E 256);have aq:=hyd bY;obtain⟨I,X⟩:=nam (cnt E 256);have ap:=hyd X;have aT:I<=256:=by rw[X];exact cnt_le E 256
 rw[q0u,<-X]at aX al;have bp:=u.f.blk;subst aX;have M0:MR mb W0 (.int .i64 rules) (.slice (some ⟨J,0,none⟩) 256 256) (.slice none 0 0) (.slice none 0 0) (labO vd O 0) (nxtL rows T 0) W0:=by
  have h1:=u.m;rw[<-U.out,<-aJ.out]at h1;exact⟨h1,OwnL.nil _ _,OwnL.nil _ _,λk hk=>(by cases hk),Below.refl _ _,λ_ _ _=>rfl⟩
 have bG:=hyd M0;have bH:Hid (∀(vl vn:Value) (ll ln:List Int) (w':World),MR mb W0 (.int .i64 rules) (.slice (some ⟨J,0,none⟩) 256 256) vl vn ll ln w'->Below w.heap.size w w'/\TC w.heap.size macZ w'/\TC J (inl (idxI E) 256) w'/\IL fa (λi=>(firstL E 256).getD i 0) I w'):=λvl vn ll ln w' h=>by
  have e1:=U.out;have e2:=aJ.out;refine⟨u.b.trans (h.b.mono (by omega)),u.t.block (h.k _ (by omega) (by omega)),?_,al.heap (λk h1 ⟨o,e⟩=>h.k k h1 ?_)⟩
  ·have h1:=u.c;rw[<-e2,q0C (g:=idxI E) (λc hc=>by rw[if_pos hc])]at h1;exact h1.block (h.k _ (by omega) (by omega))
  have:=(bp k (by rw[e];rfl)).1;omega
 have bF:Hid (IL fa (λi=>(firstL E 256).getD i 0) I W0/\(∀k o,fa=some ⟨k,o,none⟩->k≠mb)):=⟨al,λk o e=>by have:=(bp k (by rw[e];rfl)).1;have:=U.out;omega⟩;have am:=hyd2 u.b u.z;clear u al bp M0 bY X;go_wp2_with fail
 go_loopw [16] (λx w'=>∃(i:Nat) (vl vn:Value),i<=ol/\x=.int .i64 i/\MR mb W0 (.int .i64 rules) (.slice (some ⟨J,0,none⟩) 256 256) vl vn (labO vd O i) (nxtL rows T i) w') (λx _=>ol-(intOf x).toNat)
 ·exact⟨0,_,_,by omega,rfl,bG.out⟩
 clear bG;obtain⟨i,vl,vn,hi,rfl,Z⟩:=hrel;obtain⟨Bw,T0,T1,ca⟩:=bH.out _ _ _ _ wr Z;by_cases aV:i<ol
 ·have cS:(i:Int)<ol:=by omega
  obtain⟨aQ,aO,aR⟩:=HP.out W0 am.out.1;obtain⟨σ,hσ⟩:∃σ,O[i]?=some σ:=⟨O[i]'(by have:=ar.out;omega),List.getElem?_eq_getElem _⟩;have b8:=co.out σ (List.mem_of_getElem? hσ);have cT:(σ:Int)<N:=by omega
  have bB:O.getD i 0=σ:=by rw[List.getD_eq_getElem?_getD,hσ];rfl
  obtain⟨va,aG,bc,cc⟩:=aQ.v;obtain⟨vb,vo,cz,bd⟩:=cc σ b8;subst cz;obtain⟨ob,oo,cy,bb⟩:=aO i aV;subst cy;simp only[bB]at bb;obtain⟨y,hy⟩:=nam (vd σ);rw[<-hy]at bd;have a1:Hid (labO vd O (i+1)=labO vd O i++[y]):=by show _=_;rw[y0y,bB,hy]
  have C:pb≠mb/\ob≠mb/\vb≠mb/\pb<W0.heap.size/\ob<W0.heap.size/\vb<W0.heap.size:=by
   obtain⟨cA,aP,_⟩:=HP.out w (Below.refl _ _);obtain⟨cJ,ch,a4,cd⟩:=cA.v;have g1:=World.block_lt_of_cell? _ _ a4;have g0:(Value.slice cJ N ch)=.slice (some ⟨vb,vo,none⟩) N aG:=by
    have:=am.out.1.cell (p:=⟨pb,0,none⟩) g1;rw[bc,a4]at this;exact(Option.some.inj this).symm
   cases g0;obtain⟨b1,o1,e1,c1⟩:=cd σ b8;cases e1;obtain⟨b2,o2,e2,c2⟩:=aP i aV;cases e2;have g2:=World.block_lt_of_cell? _ _ c1;have g3:=World.block_lt_of_cell? _ _ c2;have:=am.out.2;have:=U.out;simp only at g1 g2 g3;omega
  have aK:=hyd3 C.2.2.2.1 C.2.2.2.2.1 C.2.2.2.2.2;have R:Hid (∀(ci:Value) (ll':List Int) (w':World),MR mb W0 (.int .i64 rules) (.slice (some ⟨J,0,none⟩) 256 256) ci vn ll' (nxtL rows T i) w'->(λw'=>w'.cell? ⟨pb,0,none⟩=some (.slice (some ⟨vb,vo,none⟩) N aG)/\w'.cell? ⟨ob,oo+i,none⟩=some (.int .i64 (σ:Int))/\w'.cell? ⟨vb,vo+σ,none⟩=some (.int .i64 y)) w'):=λci ll' w' h=>⟨h.cell bc C.1,h.cell bb C.2.1,h.cell bd C.2.2.1⟩
  obtain⟨D,F,G⟩:=R.out _ _ wr Z;obtain⟨cg,a5,ab,_⟩:=Z.ol.il;rw[q4e]at ab;have aL:=hyd ab;have cm:=(Z.c 2 _ rfl).1;rw[ab]at cm;have aD:(labO vd O i).length<=1000000:=by rw[q4e];omega
  have HZ:=hyd Z;clear Z Bw T0 T1 ca aQ aO aR hσ bB bc cc bd bb hy C ab;go_wp2_with fail;have aw:(λw'=>w'.cell? ⟨pb,0,none⟩=some (.slice (some ⟨vb,vo,none⟩) N aG)/\w'.cell? ⟨ob,oo+i,none⟩=some (.int .i64 (σ:Int))/\w'.cell? ⟨vb,vo+σ,none⟩=some (.int .i64 y)) wr.drew:=⟨D,F,G⟩;refine wp_region_held_drew (S:=λw'=>w'.cell? ⟨pb,0,none⟩=some (.slice (some ⟨vb,vo,none⟩) N aG)/\w'.cell? ⟨ob,oo+i,none⟩=some (.int .i64 (σ:Int))/\w'.cell? ⟨vb,vo+σ,none⟩=some (.int .i64 y)) (by kernel_rfl) aw (λhHeld=>?_);refine wpAnyH_take (i:=0) (oi:=?oH0) (v:=?vH0) ?hiH0 ?hsH0 ?hfH0 ?hrH0 ?hQH0 (Or.inl ⟨?hwH0,?hyH0⟩) ?hSH0 ?restH0
  case hiH0=>simp only[List.getElem?_toArray,List.getElem?_cons_zero];rfl
  case hsH0=>kernel_rfl
  case hfH0=>kernel_rfl
  case hrH0=>kernel_rfl
  case hQH0=>exact λ_ _ _ h=>h
  case hSH0=>assumption
  case hwH0=>rfl
  case hyH0=>intro w' a;obtain⟨D,F,G⟩:=a;go_simp;first|done|with_reducible rfl
  (try simp only[psm])
  refine wpAnyH_take (i:=2) (by simp only[gel];rfl) (by kernel_rfl) (by kernel_rfl) (by kernel_rfl) (by exact λ_ _ _ h=>h) (Or.inl ⟨by rfl,by intro w' a;obtain⟨D,F,G⟩:=a;go_simp;first|done|with_reducible rfl⟩) (by assumption) ?_
  (try simp only[psm])
  refine wpAnyH_take (i:=3) (by simp only[gel];rfl) (by kernel_rfl) (by kernel_rfl) (by kernel_rfl) (by exact λ_ _ _ h=>h) (Or.inl ⟨by rfl,by intro w' a;obtain⟨D,F,G⟩:=a;go_simp;first|done|with_reducible rfl⟩) (by assumption) ?_
  (try simp only[psm])
  refine wpAnyH_take (i:=4) (by simp only[gel];rfl) (by kernel_rfl) (by kernel_rfl) (by kernel_rfl) (by exact λ_ _ _ h=>h) (Or.inl ⟨by rfl,by intro w' a;obtain⟨D,F,G⟩:=a;go_simp;first|done|with_reducible rfl⟩) (by assumption) ?_
  (try simp only[psm])
  refine wpAnyH_take (i:=5) (by simp only[gel];rfl) (by kernel_rfl) (by kernel_rfl) (by kernel_rfl) (by exact λ_ _ _ h=>h) (Or.inl ⟨by rfl,by intro w' a;obtain⟨D,F,G⟩:=a;go_simp;first|done|with_reducible rfl⟩) (by assumption) ?_
  (try simp only[psm])
  refine wpAnyH_take (i:=6) (by simp only[gel];rfl) (by kernel_rfl) (by kernel_rfl) (by kernel_rfl) (by exact λ_ _ _ h=>h) (Or.inl ⟨by rfl,by intro w' a;obtain⟨D,F,G⟩:=a;go_simp;first|done|with_reducible rfl⟩) (by assumption) ?_
  (try simp only[psm])
  refine wpAnyH_take (i:=7) (by simp only[gel];rfl) (by kernel_rfl) (by kernel_rfl) (by kernel_rfl) (by exact λ_ _ _ h=>h) (Or.inl ⟨by rfl,by intro w' a;obtain⟨D,F,G⟩:=a;go_simp;first|done|with_reducible rfl⟩) (by assumption) ?_
  (try simp only[psm])
  refine wpAnyH_take (i:=8) (by simp only[gel];rfl) (by kernel_rfl) (by kernel_rfl) (by kernel_rfl) (by exact λ_ _ _ h=>h) (Or.inl ⟨by rfl,by intro w' a;obtain⟨D,F,G⟩:=a;go_simp;first|done|with_reducible rfl⟩) (by assumption) ?_
  (try simp only[psm])
  refine wpAnyH_take (i:=9) (by simp only[gel];rfl) (by kernel_rfl) (by kernel_rfl) (by kernel_rfl) (by exact λ_ _ _ h=>h) (Or.inl ⟨by rfl,by intro w' a;obtain⟨D,F,G⟩:=a;go_simp;first|done|with_reducible rfl⟩) (by assumption) ?_
  (try simp only[psm])
  refine wpAnyH_take (i:=10) (by simp only[gel];rfl) (by kernel_rfl) (by kernel_rfl) (by kernel_rfl) (by exact λ_ _ _ h=>h) (Or.inl ⟨by rfl,by intro w' a;obtain⟨D,F,G⟩:=a;go_simp;first|done|with_reducible rfl⟩) (by assumption) ?_
  (try simp only[psm])
  refine wpAnyH_take (i:=11) (by simp only[gel];rfl) (by kernel_rfl) (by kernel_rfl) (by kernel_rfl) (by exact λ_ _ _ h=>h) (Or.inl ⟨by rfl,by intro w' a;obtain⟨D,F,G⟩:=a;go_simp;first|done|with_reducible rfl⟩) (by assumption) ?_
  (try simp only[psm])
  obtain⟨W3,n⟩:=nam (wr.drew.alloc (.cells #[.int .i64 y] 3));have q4:=cm;have Zd:=HZ.out.below (Below.refl wr.heap.size wr).drew an;have x3:Below wr.drew.heap.size wr.drew W3:=by rw[n];exact box_bel wr.drew _
  have Z3:=Zd.below x3 an;have bD:W3.cell? ⟨mb,2,none⟩=some (.slice cg i a5):=by rw[<-aL.out];exact(Z3.c 2 _ rfl).1
  have ae:=R.out _ _ W3 Z3;refine q2P (fuel:=3) 1 12 (oi:=?Hp1) (ok:=?Hpk) (vi:=.slice cg i a5) (vk:=.slice (some ⟨wr.drew.heap.size,0,none⟩) 1 1) (L:=#[true,true,true,true,true,true,true,true,true,true,true,true,true,false,false,false]) (A:=?HA) (w':=W3)
   ?Hh1 ?Hhk ?Hg1 ?Hgk ?Hr0 ?Hr1 ?Hr2 ?Hxi ?Hyi ?Hxk ?Hyk ?Hl1 ?Hl2 ?Hf1 ?Hf2 ?HhS ?HhSp ?Hfin
  case Hh1=>simp only[gel];rfl
  case Hhk=>simp only[gel];rfl
  case Hg1=>rfl
  case Hgk=>rfl
  case Hr0=>kernel_rfl
  case Hr1=>kernel_rfl
  case Hr2=>kernel_rfl
  case Hxi=>go_simp
  case Hyi=>clear n;simp only[psm];go_simp
  case Hxk=>rw[n];exact q1a _ rfl y rfl
  case Hyk=>rw[n];exact q1a _ rfl y rfl
  case Hl1=>kernel_rfl
  case Hl2=>kernel_rfl
  case Hf1=>simp only[psm];rfl
  case Hf2=>simp only[psm]
  case HhS=>exact hHeld
  case HhSp=>exact ae
  have aa:W3.cell? ⟨wr.drew.heap.size,0,none⟩=some (.int .i64 y):=by rw[n,World.cell?_alloc_new];rfl
  have av:=Z3.ol;have W:=Z3.b.size;refine wpAnyH_ready (rs:=[13]) (by kernel_rfl) (by simp) ?_;refine AllReadyH.cons (o:=?oH13) ?hiH13 (λK hK=>?_) AllReadyH.nil
  case hiH13=>simp only[gel];rfl
  rw[if_pos (by rfl)];refine q2k _ _ rfl W0.heap.size vl (labO vd O i) (by rw[aL.out];rfl) av aD wr.drew.heap.size y rfl aa W _ rfl ?_;intro g6 H w6 ac d Q bt;rw[<-a1.out]at ac;rw[n]at d Q;obtain⟨p1,p2,Z6⟩:=Zd.putL an ac d Q;have bm:(λw'=>w'.cell? ⟨pb,0,none⟩=some (.slice (some ⟨vb,vo,none⟩) N aG)/\w'.cell? ⟨ob,oo+i,none⟩=some (.int .i64 (σ:Int))/\w'.cell? ⟨vb,vo+σ,none⟩=some (.int .i64 y)) w6:=by
   have ai:=Zd.ol.blk;obtain⟨y1,y2,y3⟩:=ae;rw[n]at y1 y2 y3;obtain⟨z1,z2,z3⟩:=aK.out;refine⟨?_,?_,?_⟩
   ·rw[d.cell_far _ (World.block_lt_of_cell? _ _ y1) (λe=>by have:=(ai _ e.symm).1;simp only at this;omega)];exact y1
   ·rw[d.cell_far _ (World.block_lt_of_cell? _ _ y2) (λe=>by have:=(ai _ e.symm).1;simp only at this;omega)];exact y2
   rw[d.cell_far _ (World.block_lt_of_cell? _ _ y3) (λe=>by have:=(ai _ e.symm).1;simp only at this;omega)];exact y3
  refine hK.out _ _ bm (λhHeld=>?_);clear hK K;obtain⟨W7,af⟩:=nam (w6.setCell ⟨mb,2,none⟩ (.slice (some ⟨g6,0,none⟩) ((labO vd O i).length+1) H));rw[<-af]at Z6;have aI:=hyd af;have aS:=R.out _ _ W7 Z6;rw[aL.out]at p1
  (try simp only[psm])
  clear af ac d Q bt Z3 av W aa Zd x3 q4 bD n cm HZ ae aw D F G;refine wpAnyH_take (i:=14) (by simp only[gel];rfl) (by kernel_rfl) (by kernel_rfl) (by kernel_rfl) (by exact λ_ _ _ h=>h) (Or.inl ⟨by rfl,by intro w' a;obtain⟨D,F,G⟩:=a;go_simp;first|done|with_reducible rfl⟩) (by assumption) ?_
  (try simp only[psm])
  refine wpAnyH_ready (rs:=[15]) (by kernel_rfl) (by simp) ?_;refine AllReadyH.cons (o:=?oH15) ?hiH15 (λK hK=>?_) AllReadyH.nil
  case hiH15=>simp only[gel];rfl
  go_simp;rw[<-aI.out];refine hK.out _ _ aS (λhHeld=>?_);clear hK K;refine wpAnyH_done (by kernel_rfl) ?_ _;go_wp2_with fail
  (try simp only[Act.put])
  rw[q4e]at Z6;have bJ:Hid (MR mb W0 (.int .i64 rules) (.slice (some ⟨J,0,none⟩) 256 256) (.slice (some ⟨g6,0,none⟩) (i+1) H) vn (labO vd O (i+1)) (nxtL rows T i++nxtR rows T i 0) W7):=by
   show MR _ _ _ _ _ _ _ _ _;rw[show nxtR rows T i 0=[] from rfl,List.append_nil];exact Z6
  clear Z6 aS hHeld p1 p2 aI R aK aL a1;go_wp2_with fail
  go_loopw [17] (λx w'=>∃(c:Nat) (vn:Value),c<=I/\x=.int .i64 c/\MR mb W0 (.int .i64 rules) (.slice (some ⟨J,0,none⟩) 256 256) (.slice (some ⟨g6,0,none⟩) (i+1) H) vn (labO vd O (i+1)) (nxtL rows T i++nxtR rows T i c) w') (λx _=>I-(intOf x).toNat)
  ·exact⟨0,_,by omega,rfl,bJ.out⟩
  clear bJ;obtain⟨c,vn,hc,rfl,Z⟩:=hrel;have M:T.length=I:=by rw[aq.out,ap.out];rfl
  by_cases bo:c<I
  ·have cP:(c:Int)<I:=by omega
   obtain⟨aQ,aO,aR⟩:=HP.out W0 am.out.1;obtain⟨κ,hκ⟩:∃κ,T[c]?=some κ:=⟨T[c]'(by omega),List.getElem?_eq_getElem _⟩;have b7:κ<256:=by have h:=hκ;rw[aq.out]at h;exact(reps_mem h).1
   have cZ:(κ:Int)<256:=by omega
   obtain⟨fg,fo,aN,cf⟩:=bF.out.1 c bo;have bX:=bF.out.2 _ _ aN;subst aN;have aC:(firstL E 256).getD c 0=(κ:Int):=by
    rw[firstL,<-aq.out];simp[List.getD_eq_getElem?_getD,hκ]
   simp only[aC]at cf;obtain⟨rb,ro,xa,xc,be,aM,ao⟩:=aR i aV;subst be;obtain⟨xb,xo,bf,cx⟩:=ao κ b7;subst bf;obtain⟨x,hx⟩:=nam (rows i κ);rw[<-hx]at cx;have C:rb≠mb/\xb≠mb/\rb<W0.heap.size/\fg<W0.heap.size/\xb<W0.heap.size:=by
    obtain⟨_,_,cB⟩:=HP.out w (Below.refl _ _);obtain⟨c6,c7,cK,cL,bR,a3,ce⟩:=cB i aV;cases bR;have g1:=World.block_lt_of_cell? _ _ a3;have g0:(Value.slice cK 256 cL)=.slice (some ⟨xb,xo,none⟩) 256 xc:=by
     have:=am.out.1.cell (p:=⟨rb,ro+i,none⟩) g1;rw[aM,a3]at this;exact(Option.some.inj this).symm
    cases g0;obtain⟨b1,o1,e1,c1⟩:=ce κ b7;cases e1;have g2:=World.block_lt_of_cell? _ _ c1;have g3:=World.block_lt_of_cell? _ _ cf;have:=am.out.2;have:=U.out;simp only at g1 g2 g3;omega
   have aK:=hyd3 C.2.2.1 C.2.2.2.1 C.2.2.2.2;have R:Hid (∀(cj:Value) (ln':List Int) (w':World),MR mb W0 (.int .i64 rules) (.slice (some ⟨J,0,none⟩) 256 256) (.slice (some ⟨g6,0,none⟩) (i+1) H) cj (labO vd O (i+1)) ln' w'->(λw'=>w'.cell? ⟨rb,ro+i,none⟩=some (.slice (some ⟨xb,xo,none⟩) 256 xc)/\w'.cell? ⟨fg,fo+c,none⟩=some (.int .i64 (κ:Int))/\w'.cell? ⟨xb,xo+κ,none⟩=some (.int .i64 x)) w'):=λcj ln' w' h=>⟨h.cell aM C.1,h.cell cf bX,h.cell cx C.2.1⟩
   obtain⟨D,F,G⟩:=R.out _ _ wr Z;have bQ:Hid (nxtL rows T i++nxtR rows T i (c+1)=(nxtL rows T i++nxtR rows T i c)++[x]):=by
    show _=_;rw[q7i,List.append_assoc,List.getD_eq_getElem?_getD,hκ,hx];rfl
   obtain⟨LN,bi⟩:=nam (nxtL rows T i++nxtR rows T i c);rw[<-bi]at Z bQ;have aD:LN.length<=1000000:=by
    rw[bi,List.length_append,q3k,q6g,M];have h1:i*I<=200*256:=Nat.mul_le_mul (by omega) (by omega);omega
   obtain⟨na,a6,V,_⟩:=Z.on.il;obtain⟨a7,b3⟩:=nam LN.length;rw[<-b3]at V;have a9:=hyd V;have cm:=(Z.c 3 _ rfl).1;rw[V]at cm;have HZ:=hyd Z;obtain⟨gL,bq⟩:=nam g6;obtain⟨cN,ag⟩:=nam H;rw[<-bq,<-ag]at HZ R;have bN:=hyd2 bq ag;clear Z aQ aO aR hκ cf aC aM ao cx hx C bi V b3 M bq ag bX;go_wp2_with fail;have aw:(λw'=>w'.cell? ⟨rb,ro+i,none⟩=some (.slice (some ⟨xb,xo,none⟩) 256 xc)/\w'.cell? ⟨fg,fo+c,none⟩=some (.int .i64 (κ:Int))/\w'.cell? ⟨xb,xo+κ,none⟩=some (.int .i64 x)) wr.drew:=⟨D,F,G⟩;refine wp_region_held_drew (S:=λw'=>w'.cell? ⟨rb,ro+i,none⟩=some (.slice (some ⟨xb,xo,none⟩) 256 xc)/\w'.cell? ⟨fg,fo+c,none⟩=some (.int .i64 (κ:Int))/\w'.cell? ⟨xb,xo+κ,none⟩=some (.int .i64 x)) (by kernel_rfl) aw (λhHeld=>?_);refine wpAnyH_take (i:=0) (oi:=?oJ0) (v:=?vJ0) ?hiJ0 ?hsJ0 ?hfJ0 ?hrJ0 ?hQJ0 (Or.inl ⟨?hwJ0,?hyJ0⟩) ?hSJ0 ?restJ0
   case hiJ0=>simp only[List.getElem?_toArray,List.getElem?_cons_zero];rfl
   case hsJ0=>kernel_rfl
   case hfJ0=>kernel_rfl
   case hrJ0=>kernel_rfl
   case hQJ0=>exact λ_ _ _ h=>h
   case hSJ0=>assumption
   case hwJ0=>rfl
   case hyJ0=>intro w' a;obtain⟨D,F,G⟩:=a;go_simp;first|done|with_reducible rfl
   (try simp only[psm])
   refine wpAnyH_take (i:=2) (by simp only[gel];rfl) (by kernel_rfl) (by kernel_rfl) (by kernel_rfl) (by exact λ_ _ _ h=>h) (Or.inl ⟨by rfl,by intro w' a;obtain⟨D,F,G⟩:=a;go_simp;first|done|with_reducible rfl⟩) (by assumption) ?_
   (try simp only[psm])
   refine wpAnyH_take (i:=3) (by simp only[gel];rfl) (by kernel_rfl) (by kernel_rfl) (by kernel_rfl) (by exact λ_ _ _ h=>h) (Or.inl ⟨by rfl,by intro w' a;obtain⟨D,F,G⟩:=a;go_simp;first|done|with_reducible rfl⟩) (by assumption) ?_
   (try simp only[psm])
   refine wpAnyH_take (i:=4) (by simp only[gel];rfl) (by kernel_rfl) (by kernel_rfl) (by kernel_rfl) (by exact λ_ _ _ h=>h) (Or.inl ⟨by rfl,by intro w' a;obtain⟨D,F,G⟩:=a;go_simp;first|done|with_reducible rfl⟩) (by assumption) ?_
   (try simp only[psm])
   refine wpAnyH_take (i:=5) (by simp only[gel];rfl) (by kernel_rfl) (by kernel_rfl) (by kernel_rfl) (by exact λ_ _ _ h=>h) (Or.inl ⟨by rfl,by intro w' a;obtain⟨D,F,G⟩:=a;go_simp;first|done|with_reducible rfl⟩) (by assumption) ?_
   (try simp only[psm])
   refine wpAnyH_take (i:=6) (by simp only[gel];rfl) (by kernel_rfl) (by kernel_rfl) (by kernel_rfl) (by exact λ_ _ _ h=>h) (Or.inl ⟨by rfl,by intro w' a;obtain⟨D,F,G⟩:=a;go_simp;first|done|with_reducible rfl⟩) (by assumption) ?_
   (try simp only[psm])
   refine wpAnyH_take (i:=7) (by simp only[gel];rfl) (by kernel_rfl) (by kernel_rfl) (by kernel_rfl) (by exact λ_ _ _ h=>h) (Or.inl ⟨by rfl,by intro w' a;obtain⟨D,F,G⟩:=a;go_simp;first|done|with_reducible rfl⟩) (by assumption) ?_
   (try simp only[psm])
   refine wpAnyH_take (i:=8) (by simp only[gel];rfl) (by kernel_rfl) (by kernel_rfl) (by kernel_rfl) (by exact λ_ _ _ h=>h) (Or.inl ⟨by rfl,by intro w' a;obtain⟨D,F,G⟩:=a;go_simp;first|done|with_reducible rfl⟩) (by assumption) ?_
   (try simp only[psm])
   refine wpAnyH_take (i:=9) (by simp only[gel];rfl) (by kernel_rfl) (by kernel_rfl) (by kernel_rfl) (by exact λ_ _ _ h=>h) (Or.inl ⟨by rfl,by intro w' a;obtain⟨D,F,G⟩:=a;go_simp;first|done|with_reducible rfl⟩) (by assumption) ?_
   (try simp only[psm])
   refine wpAnyH_take (i:=10) (by simp only[gel];rfl) (by kernel_rfl) (by kernel_rfl) (by kernel_rfl) (by exact λ_ _ _ h=>h) (Or.inl ⟨by rfl,by intro w' a;obtain⟨D,F,G⟩:=a;go_simp;first|done|with_reducible rfl⟩) (by assumption) ?_
   (try simp only[psm])
   refine wpAnyH_take (i:=11) (by simp only[gel];rfl) (by kernel_rfl) (by kernel_rfl) (by kernel_rfl) (by exact λ_ _ _ h=>h) (Or.inl ⟨by rfl,by intro w' a;obtain⟨D,F,G⟩:=a;go_simp;first|done|with_reducible rfl⟩) (by assumption) ?_
   (try simp only[psm])
   obtain⟨W3,n⟩:=nam (wr.drew.alloc (.cells #[.int .i64 x] 3));have q4:=cm;have Zd:=HZ.out.below (Below.refl wr.heap.size wr).drew an;have x3:Below wr.drew.heap.size wr.drew W3:=by rw[n];exact box_bel wr.drew _
   have Z3:=Zd.below x3 an;have bD:W3.cell? ⟨mb,3,none⟩=some (.slice na a7 a6):=by rw[<-a9.out];exact(Z3.c 3 _ rfl).1
   have ae:=R.out _ _ W3 Z3;refine q2P (fuel:=3) 1 12 (oi:=?Jp1) (ok:=?Jpk) (vi:=.slice na a7 a6) (vk:=.slice (some ⟨wr.drew.heap.size,0,none⟩) 1 1) (L:=#[true,true,true,true,true,true,true,true,true,true,true,true,true,false,false,false]) (A:=?JA) (w':=W3)
    ?Jh1 ?Jhk ?Jg1 ?Jgk ?Jr0 ?Jr1 ?Jr2 ?Jxi ?Jyi ?Jxk ?Jyk ?Jl1 ?Jl2 ?Jf1 ?Jf2 ?JhS ?JhSp ?Jfin
   case Jh1=>simp only[gel];rfl
   case Jhk=>simp only[gel];rfl
   case Jg1=>rfl
   case Jgk=>rfl
   case Jr0=>kernel_rfl
   case Jr1=>kernel_rfl
   case Jr2=>kernel_rfl
   case Jxi=>go_simp
   case Jyi=>clear n;simp only[psm];go_simp
   case Jxk=>rw[n];exact q1a _ rfl x rfl
   case Jyk=>rw[n];exact q1a _ rfl x rfl
   case Jl1=>kernel_rfl
   case Jl2=>kernel_rfl
   case Jf1=>simp only[psm];rfl
   case Jf2=>simp only[psm]
   case JhS=>exact hHeld
   case JhSp=>exact ae
   have aa:W3.cell? ⟨wr.drew.heap.size,0,none⟩=some (.int .i64 x):=by rw[n,World.cell?_alloc_new];rfl
   have av:=Z3.on;have W:=Z3.b.size;refine wpAnyH_ready (rs:=[13]) (by kernel_rfl) (by simp) ?_;refine AllReadyH.cons (o:=?oJ13) ?hiJ13 (λK hK=>?_) AllReadyH.nil
   case hiJ13=>simp only[gel];rfl
   rw[if_pos (by rfl)];refine q2k _ _ rfl W0.heap.size vn LN (by rw[a9.out];rfl) av aD wr.drew.heap.size x rfl aa W _ rfl ?_;intro g6 H w6 ac d Q bt;rw[<-bQ.out]at ac;rw[n]at d Q;obtain⟨p1,p2,Z6⟩:=Zd.putN an ac d Q;have bm:(λw'=>w'.cell? ⟨rb,ro+i,none⟩=some (.slice (some ⟨xb,xo,none⟩) 256 xc)/\w'.cell? ⟨fg,fo+c,none⟩=some (.int .i64 (κ:Int))/\w'.cell? ⟨xb,xo+κ,none⟩=some (.int .i64 x)) w6:=by
    have ai:=Zd.on.blk;obtain⟨y1,y2,y3⟩:=ae;rw[n]at y1 y2 y3;obtain⟨z1,z2,z3⟩:=aK.out;refine⟨?_,?_,?_⟩
    ·rw[d.cell_far _ (World.block_lt_of_cell? _ _ y1) (λe=>by have:=(ai _ e.symm).1;simp only at this;omega)];exact y1
    ·rw[d.cell_far _ (World.block_lt_of_cell? _ _ y2) (λe=>by have:=(ai _ e.symm).1;simp only at this;omega)];exact y2
    rw[d.cell_far _ (World.block_lt_of_cell? _ _ y3) (λe=>by have:=(ai _ e.symm).1;simp only at this;omega)];exact y3
   refine hK.out _ _ bm (λhHeld=>?_);clear hK K;obtain⟨W7,af⟩:=nam (w6.setCell ⟨mb,3,none⟩ (.slice (some ⟨g6,0,none⟩) (LN.length+1) H));rw[<-af]at Z6;have aI:=hyd af;have aS:=R.out _ _ W7 Z6;rw[a9.out]at p1
   (try simp only[psm])
   clear af ac d Q bt Z3 av W aa Zd x3 q4 bD n cm HZ ae aw D F G;refine wpAnyH_take (i:=14) (by simp only[gel];rfl) (by kernel_rfl) (by kernel_rfl) (by kernel_rfl) (by exact λ_ _ _ h=>h) (Or.inl ⟨by rfl,by intro w' a;obtain⟨D,F,G⟩:=a;go_simp;first|done|with_reducible rfl⟩) (by assumption) ?_
   (try simp only[psm])
   refine wpAnyH_ready (rs:=[15]) (by kernel_rfl) (by simp) ?_;refine AllReadyH.cons (o:=?oJ15) ?hiJ15 (λK hK=>?_) AllReadyH.nil
   case hiJ15=>simp only[gel];rfl
   go_simp;rw[<-aI.out];refine hK.out _ _ aS (λhHeld=>?_);clear hK K;refine wpAnyH_done (by kernel_rfl) ?_ _;go_wp2_with fail
   (try simp only[Act.put])
   rw[bN.out.1,bN.out.2]at Z6;go_roundw
   ·exact⟨c+1,_,by omega,by go_num,Z6⟩
   simp[intOf];omega
  have⟨aU,ah⟩:¬(c:Int)<I/\c=I:=by omega
  have Z2:MR mb W0 (.int .i64 rules) (.slice (some ⟨J,0,none⟩) 256 256) (.slice (some ⟨g6,0,none⟩) (i+1) H) vn (labO vd O (i+1)) (nxtL rows T (i+1)) wr:=by
   rw[q4C,M,<-ah];exact Z
  clear Z M ah;go_wp2_with fail;go_roundw
  ·exact⟨i+1,_,_,by omega,by go_num,Z2⟩
  simp[intOf];omega
 have⟨aU,hiN⟩:¬(i:Int)<ol/\i=ol:=by omega
 rw[hiN]at Z;have rM:=Z.c.range;have tz:=T0.there;have e1:=U.out;have e2:=aJ.out;obtain⟨la,lc,ab,bC⟩:=Z.ol.il;rw[q4e]at ab bC;obtain⟨na,nc,V,aY⟩:=Z.on.il;rw[q3k]at V aY;have M:T.length=cnt E 256:=by rw[aq.out];rfl
 rw[M]at V aY;have bu:=Z.ol.blk;have bx:=Z.on.blk;subst ab;subst V;have au:=q0e w.heap.size [.int .i64 rules,.slice (some ⟨J,0,none⟩) 256 256,.slice la ol lc,.slice na (ol*cnt E 256) nc] 0 wr;have b6:=World.rangeAt_setCells_same wr w.heap.size 0 [.int .i64 rules,.slice (some ⟨J,0,none⟩) 256 256,.slice la ol lc,.slice na (ol*cnt E 256) nc] tz;have ak:=run_loadVar_mid (P:=Tryz.prog) (wr.setCells w.heap.size 0 [.int .i64 rules,.slice (some ⟨J,0,none⟩) 256 256,.slice la ol lc,.slice na (ol*cnt E 256) nc]) w.heap.size 0 25 [.int .i64 rules,.slice (some ⟨J,0,none⟩) 256 256,.slice la ol lc,.slice na (ol*cnt E 256) nc] _ b6 Tryz.underlying25 rfl q0D;have BX:=Bw.grown au Bw.size (λq hq=>by cases hq;omega);have HR:Hid (MaR rules O rows vd w (.returned (.agg #[.int .i64 rules,.slice (some ⟨J,0,none⟩) 256 256,.slice la ol lc,.slice na (ol*cnt E 256) nc])) (wr.setCells w.heap.size 0 [.int .i64 rules,.slice (some ⟨J,0,none⟩) 256 256,.slice la ol lc,.slice na (ol*cnt E 256) nc])):=by
  refine⟨BX,some ⟨J,0,none⟩,256,la,lc,na,nc,?_,⟨?_,?_,?_⟩,?_,?_,?_⟩
  ·rw[<-ar.out,<-aH.out]
  ·intro k o e;cases e;omega
  ·intro k o e;have:=(bu k (by rw[e];rfl)).1;omega
  ·intro k o e;have:=(bx k (by rw[e];rfl)).1;omega
  ·rw[<-ar.out,<-aH.out];exact(y2w T1).heap (λk hl ⟨o,e⟩=>au.block k hl (λh=>by cases e;have:=Option.some.inj h;omega))
  ·rw[<-ar.out];exact(bC.heap (λk hl ⟨o,e⟩=>au.block k hl (λh=>by have:=Option.some.inj h;have:=(bu k (by rw[e];rfl)).1;omega))).congr (λi hi=>y2N vd O hi)
  rw[<-ar.out,<-aH.out,<-aq.out];exact aY.heap (λk hl ⟨o,e⟩=>au.block k hl (λh=>by have:=Option.some.inj h;have:=(bx k (by rw[e];rfl)).1;omega))
 obtain⟨nn,b4⟩:=nam (ol*cnt E 256);rw[<-b4]at ak HR rM;obtain⟨WX,bn⟩:=nam (wr.setCells w.heap.size 0 [.int .i64 rules,.slice (some ⟨J,0,none⟩) 256 256,.slice la ol lc,.slice na nn nc]);rw[<-bn]at ak HR;have cq:=hyd bn;have Hfin:=hyd ak;clear Z Bw T0 T1 ca au b6 ak BX bu bx bC aY bn e1 e2 hiN M b4;go_wp2_with (first|(with_reducible refine gld 25 ?_;refine Stop.out ?_));refine⟨?_⟩;refine wpList_load_mid rfl 25 _ rfl mb 0 rfl [.int .i64 rules,.slice (some ⟨J,0,none⟩) 256 256,.slice la ol lc,.slice na nn nc] _ rM Tryz.underlying25 rfl q0D ?_
 (try simp only[psm])
 refine wpList_store_mid rfl 25 _ _ rfl w.heap.size 0 #[.int .i64 rules,.slice (some ⟨J,0,none⟩) 256 256,.slice la ol lc,.slice na nn nc] rfl rfl tz q0D (by simp[Value.oneCell']) ?_;rw[List.toList_toArray,<-cq.out];go_wp2_with fail;exact bodyPost_ret (v:=.agg #[.int .i64 rules,.slice (some ⟨J,0,none⟩) 256 256,.slice la ol lc,.slice na nn nc]) (res_load1 Tryz.results31 rfl Hfin.out) rfl HR.out
end Go.Proofs.YtoaaklhpmhjhkaaGreat
