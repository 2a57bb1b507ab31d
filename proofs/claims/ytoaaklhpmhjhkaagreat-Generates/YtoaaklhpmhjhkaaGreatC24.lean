import Derived.Test.YtoaaklhpmhjhkaaGreatC23
set_option maxRecDepth 100000
set_option maxHeartbeats 4000000
set_option linter.all false
namespace Go.Proofs.YtoaaklhpmhjhkaaGreat
section
open Go.RowKit
open Bm
theorem Di (rw:Nat->Nat->Int) (S a b:Nat):Cl rw (S+1) a b=(Cl rw S a b&&(rw S a==rw S b)):=by simp[Cl,ZT]
theorem Dj (rw:Nat->Nat->Int) (S a b:Nat):Cl rw S a b=Cl rw S b a:=by
 rw[Bool.eq_iff_iff,UT,UT];exact⟨λh s hs=>(h s hs).symm,λh s hs=>(h s hs).symm⟩
structure CK (w:World) (rules:Nat) (E:Nat->Nat->Bool) (b:Nat) (vf:Value) (lf:List Int) (w':World):Prop where
 t:TC w.heap.size XL w'
 c:TC (w.heap.size+1) (inl (fun j=>if j<b then idxI E j else 0) 256) w'
 m:TC (w.heap.size+2) [.int .i64 rules,.slice (some ⟨w.heap.size+1,0,none⟩) 256 256,.slice none 0 0,.slice none 0 0] w'
 f:OwnL (w.heap.size+3) vf lf w'
 b:Below w.heap.size w w'
 z:w.heap.size+3<=w'.heap.size
variable {lf lf' ll ll' ln ln':List Int}{b cap g mb n rules:Nat}{E:Nat->N_}{nx:Nat->Nat->Int}{ob:Obj}{v0 vc vf vl vn:Value}{W0 w w' w'' w5:World}
theorem CK.below (h:CK w rules E b vf lf w') (y:Bl w' w''):CK w rules E b vf lf w'':=by
 have hz:=h.z;have:=y.size;exact⟨h.t.block (y.block _ (by omega)),h.c.block (y.block _ (by omega)),h.m.block (y.block _ (by omega)),h.f.below y,h.b.trans (y.mono h.b.size),by omega⟩
theorem CK.app (h:CK w rules E b vf lf w') (H:OwnL (w.heap.size+3) (sL g n cap) lf' w5) (y:(w'.alloc ob).grownBy w5 vf.ownBlock):CK w rules E b (sL g n cap) lf' w5:=by
 have x:=box_bel w' ob;have a:=h.below x;have hz:=a.z;have hs:=y.size;have d:=h.f.blk;exact⟨a.t.block (y.block _ (by omega) (λe=>by have:=(d _ e.symm).1;omega)),a.c.block (y.block _ (by omega) (λe=>by have:=(d _ e.symm).1;omega)),a.m.block (y.block _ (by omega) (λe=>by have:=(d _ e.symm).1;omega)),H,a.b.grown y a.b.size (λq i=>by have:=(d q i).1;omega),by omega⟩
theorem CK.set (h:CK w rules E b vf lf w') (y:b<256):CK w rules E (b+1) vf lf (w'.setCell (a_ (w.heap.size+1) b) (I6 (idxI E b))):=by
 have hz:=h.z;have d:=h.f.blk;have a:∀q,q≠w.heap.size+1->(w'.setCell (a_ (w.heap.size+1) b) (I6 (idxI E b))).heap[q]?=w'.heap[q]?:=λq j=>Zq w' (a_ (w.heap.size+1) b) _ q (λe=>j e)
 refine⟨h.t.block (a _ (by omega)),?_,h.m.block (a _ (by omega)),h.f.keep (λk i=>a k (by have:=(d k i).1;omega)),h.b.setCell (p:=(a_ (w.heap.size+1) b)) (by show _<=w.heap.size+1;omega) _,by rw[Zz];exact hz⟩;have h1:=h.c.set b (by rw[XA];exact y) (I6 (idxI E b));rw[WJ]at h1;rw[Yr (g:=λc=>if c=b then idxI E b else if c<b then idxI E c else 0) (λc _=>?_)]
 ·exact h1
 by_cases e:c=b
 ·subst e;simp
 by_cases e2:c<b
 ·simp[e,e2,show c<b+1 by omega]
 simp[e,e2,show ¬c<b+1 by omega]
structure MR (mb:Nat) (W0:World) (v0 vc vl vn:Value) (ll ln:List Int) (w':World):Prop where
 c:TC mb [v0,vc,vl,vn] w'
 ol:OwnL W0.heap.size vl ll w'
 on:OwnL W0.heap.size vn ln w'
 n3:∀k,vl.ownBlock=some k->vn.ownBlock≠some k
 b:Below mb W0 w'
 k:∀k,k<W0.heap.size->k≠mb->w'.heap[k]?=W0.heap[k]?
theorem MR.below (h:MR mb W0 v0 vc vl vn ll ln w') (y:Bl w' w'') (z:mb<W0.heap.size):MR mb W0 v0 vc vl vn ll ln w'':=
 ⟨h.c.below y,h.ol.below y,h.on.below y,h.n3,h.b.trans (y.mono (by have:=h.b.size;omega)),λk h1 h2=>by rw[y.block k (by have:=h.b.size;omega)];exact h.k k h1 h2⟩
theorem MR.putL (h:MR mb W0 v0 vc vl vn ll ln w') (J:mb<W0.heap.size) (H:OwnL W0.heap.size (sL g n cap) ll' w5) (y:(w'.alloc ob).grownBy w5 vl.ownBlock) (z:vl.ownBlock=some g\/g=(w'.alloc ob).heap.size):
  w5.cell? (a_ mb 2)=some vl/\w5.frozen? (a_ mb 2)=false/\MR mb W0 v0 vc (sL g n cap) vn ll' ln (w5.setCell (a_ mb 2) (sL g n cap)):=by
 have x:=box_bel w' ob;have hz:(w'.alloc ob).heap.size=w'.heap.size+1:=by simp
 have a:=h.below x J;have j:=h.ol.blk;have l:=h.on.blk;have hs:=h.b.size;have d:=a.c.block (y.block _ a.c.lt (λe=>by have:=(j _ e.symm).1;omega));obtain⟨c1,c2⟩:=d 2 _ rfl;have i:∀q,q≠mb->(w5.setCell (a_ mb 2) (sL g n cap)).heap[q]?=w5.heap[q]?:=λq f=>Zq w5 (a_ mb 2) _ q (λe=>f e)
 have m:=(H.blk g rfl).1;refine⟨c1,c2,d.set 2 (by simp) _,H.keep (λq f=>i q (by cases f;show g≠mb;omega)),(a.on.grown y (λq f e=>h.n3 q e f)).keep (λq f=>i q (λe=>by have:=(l q f).1;omega)),λq f e=>?_,?_,λq h1 h2=>?_⟩
 ·have e2:=Zh f;subst e2;rcases z with h1|h1
  ·exact h.n3 g h1 e
  have:=(l g e).2;omega
 ·exact(a.b.grown y (by have:=a.b.size;omega) (λq f=>by have:=(j q f).1;omega)).setCell (p:=(a_ mb 2)) (Zg _) _
 rw[i q h2,y.block q (by omega) (λe=>by have:=(j q e.symm).1;omega)];exact a.k q h1 h2
theorem MR.putN (h:MR mb W0 v0 vc vl vn ll ln w') (J:mb<W0.heap.size) (H:OwnL W0.heap.size (sL g n cap) ln' w5) (y:(w'.alloc ob).grownBy w5 vn.ownBlock) (z:vn.ownBlock=some g\/g=(w'.alloc ob).heap.size):
  w5.cell? (a_ mb 3)=some vn/\w5.frozen? (a_ mb 3)=false/\MR mb W0 v0 vc vl (sL g n cap) ll ln' (w5.setCell (a_ mb 3) (sL g n cap)):=by
 have x:=box_bel w' ob;have hz:(w'.alloc ob).heap.size=w'.heap.size+1:=by simp
 have a:=h.below x J;have j:=h.on.blk;have l:=h.ol.blk;have hs:=h.b.size;have f:=a.c.block (y.block _ a.c.lt (λe=>by have:=(j _ e.symm).1;omega));obtain⟨c1,c2⟩:=f 3 _ rfl;have i:∀q,q≠mb->(w5.setCell (a_ mb 3) (sL g n cap)).heap[q]?=w5.heap[q]?:=λq d=>Zq w5 (a_ mb 3) _ q (λe=>d e)
 have m:=(H.blk g rfl).1;refine⟨c1,c2,f.set 3 (by simp) _,(a.ol.grown y (λq d e=>h.n3 q d e)).keep (λq d=>i q (λe=>by have:=(l q d).1;omega)),H.keep (λq d=>i q (by cases d;show g≠mb;omega)),λq d e=>?_,?_,λq h1 h2=>?_⟩
 ·have e2:=Zh e;subst e2;rcases z with h1|h1
  ·exact h.n3 g d h1
  have:=(l g d).2;omega
 ·exact(a.b.grown y (by have:=a.b.size;omega) (λq d=>by have:=(j q d).1;omega)).setCell (p:=(a_ mb 3)) (Zg _) _
 rw[i q h2,y.block q (by omega) (λe=>by have:=(j q e.symm).1;omega)];exact a.k q h1 h2
theorem MR.cell (h:MR mb W0 v0 vc vl vn ll ln w') {a o:Nat}{v:Value} (y:W0.cell? (a_ a o)=some v) (ha:a≠mb):w'.cell? (a_ a o)=some v:=by
 rw[World.cell?_of_block (w:=W0) (a:=(a_ a o)) (h.k a (Ze W0 _ y) ha)];exact y
def Tx (vd:Nat->Int) (O:List Nat) (i:Nat):List Int:=(List.range i).map λs=>vd (O.getD s 0)
theorem GB (vd:Nat->Int) (O:List Nat) (i:Nat):Tx vd O (i+1)=Tx vd O i++[vd (O.getD i 0)]:=by simp[Tx,ZT]
theorem QU (vd:Nat->Int) (O:List Nat) (i:Nat):(Tx vd O i).length=i:=by simp[Tx]
theorem DI (vd:Nat->Int) (O:List Nat) {i n:Nat} (h:i<n):(Tx vd O n).getD i 0=vd (O.getD i 0):=by simp[Tx,Zf,h]
theorem Ks (pb N:Nat) (vd:Nat->Int) (nx:Nat->Nat->Int) (bs:List Nat) (oa:Option Addr) (oc:Nat) (O:List Nat) (ra:Option Addr) (rc:Nat) (rows:Nat->Nat->Int) (rules:Nat) (w:World) (hP:IE pb N vd nx bs w) (hO:IL oa (λi=>((O.getD i 0:Nat):Int)) O.length w) (hR:Cv ra O.length rows w) (c6:O.length<=96) (hN:N<=200) (cn:∀x∈O,x<N) (c7:rules<=8):
  Cp 31 #[pT pb,I6 rules,.slice oa O.length oc,.slice ra O.length rc] w (Cc rules O rows vd w):=by
 have hz:=WV;have HE:=hyd (Nh rows O.length 256);obtain⟨ol,az⟩:=nam O.length;have am:=hyd az;have HP:Hid (∀w',Bl w w'->IE pb N vd nx bs w'/\IL oa (λi=>((O.getD i 0:Nat):Int)) ol w'/\Cv ra ol rows w'):=λw' h=>by
  rw[az];refine⟨hP.below h,hO.below h,λi hi=>?_⟩;obtain⟨b,o,xa,xc,e,c,il⟩:=hR i hi;exact⟨b,o,xa,xc,e,by rw[h.cell (p:=(a_ b (o+i))) (Ze w _ c)];exact c,il.below h⟩
 have cg:=hyd cn;obtain⟨E,hE⟩:=nam (Cl rows ol);have aC:=hyd hE;rw[<-az]at HE c6;rw[<-hE]at HE;rw[<-az];have cC:(Instr.makeSlice 23 (I6 256) (I6 256)).run Tryz.prog (w.alloc (.cells #[I6 0,sN,sN,sN] 25))=.ok (.slice (some (a_ (w.heap.size+1) 0)) 256 256) ((w.alloc (.cells #[I6 0,sN,sN,sN] 25)).alloc (.cells (XN 256).toArray 3)):=by
  have:=VJ (w.alloc (.cells #[I6 0,sN,sN,sN] 25)) 256 (by omega);rw[World.size_alloc]at this;exact this
 obtain⟨Wa,aq⟩:=nam (w.alloc (.cells #[I6 0,sN,sN,sN] 25));obtain⟨Wb,ar⟩:=nam (Wa.alloc (.cells (XN 256).toArray 3));obtain⟨Wc,au⟩:=nam (Wb.alloc (.cells #[I6 (rules:Int),.slice (some (a_ (w.heap.size+1) 0)) 256 256,sN,sN] 25));have za:Wa.heap.size=w.heap.size+1:=by rw[aq];simp
 have zb:Wb.heap.size=w.heap.size+2:=by rw[ar];simp[za]
 have zc:Wc.heap.size=w.heap.size+3:=by rw[au];simp[zb]
 have xa:Bl w Wa:=by rw[aq];exact box_bel _ _
 have xb:Bl Wa Wb:=by rw[ar];exact box_bel _ _
 have xc:Bl Wb Wc:=by rw[au];exact box_bel _ _
 have Ta:TC w.heap.size XL Wa:=by rw[aq];exact TC.boxed w XL _
 have Tb:TC (w.heap.size+1) (XN 256) Wb:=by rw[ar,<-za];exact TC.boxed Wa (XN 256) _
 have Tc:TC (w.heap.size+2) [I6 (rules:Int),.slice (some (a_ (w.heap.size+1) 0)) 256 256,sN,sN] Wc:=by rw[au,<-zb];exact TC.boxed Wb [I6 (rules:Int),.slice (some (a_ (w.heap.size+1) 0)) 256 256,sN,sN] _
 have C0:CK w rules E 0 (sN) (YS E 0) Wc:=by
  refine⟨(Ta.block (xb.block _ (by omega))).block (xc.block _ (by omega)),?_,Tc,OwnL.nil _ _,(xa.trans (xb.mono (by omega))).trans (xc.mono (by omega)),by omega⟩;rw[Yr (g:=λ_=>0) (λc _=>by rw[g_])];exact Tb.block (xc.block _ (by omega))
 have bA:=hyd C0;have bE:Hid (Wc=((w.alloc (.cells #[I6 0,sN,sN,sN] 25)).alloc (.cells (XN 256).toArray 3)).alloc (.cells #[I6 (rules:Int),.slice (some (a_ (w.heap.size+1) 0)) 256 256,sN,sN] 25)):=by show _=_;rw[au,ar,aq]
 clear hP hO hR cn az hE aq ar au za zb zc xa xb xc Ta Tb Tc C0;go_enter Tryz.func31,Tryz.ntmps31;go_wp2;clear cC;rw[<-bE.out];clear bE;obtain⟨cb,bR⟩:=nam (w.heap.size+1);have aE:=hyd bR;obtain⟨mb,br⟩:=nam (w.heap.size+2);have J:=hyd br;rw[<-br];clear bR br
 go_loopw [10,11] (λvf x w'=>∃b:Nat,b<=256/\x=I6 b/\CK w rules E b vf (YS E b) w') (λ_ x _=>256-(intOf x).toNat)
 ·exact⟨0,by omega,rfl,bA⟩
 clear bA;obtain⟨b,hb,rfl,n⟩:=hrel;by_cases av:b<256
 ·have cK:(b:Int)<256:=by omega
  obtain⟨fa,fc,aS,_⟩:=n.f.il;subst aS;rw[YJ]at n;rw[YJ];have T:=rep_new HE av;obtain⟨id,bm⟩:=nam (idx E b);rw[<-bm]at T;have aV:=hyd bm;clear bm;have bf:=cnt_le E b;obtain⟨D,R⟩:=nam (cnt E b);have ak:=hyd R;rw[<-R]at T bf n ⊢;clear R;have aU:=hyd T.1;have cM:=T.2;have aO:(D:Int)<256:=by omega
  clear T;have u:=hyd n;clear n;go_wp2
  go_loopw [12,13] (λc k w'=>∃(kk cv:Nat) (ki:Int),kk<=D/\ki=(kk:Int)-1/\k=I6 ki/\c=I6 cv/\(kk<=id->cv=id)/\(¬kk<=id->cv=D)/\CK w rules E b (.slice fa D fc) (YS E b) w') (λ_ k _=>(intOf k+1).toNat)
  ·exact⟨D,D,(D:Int)-1,by omega,rfl,rfl,rfl,λh=>by omega,λ_=>rfl,u⟩
  clear u;obtain⟨kk,cv,ki,cT,bV,rfl,rfl,ae,aw,n⟩:=hrel;by_cases cS:0<kk
  ·obtain⟨j,rfl⟩:∃j,kk=j+1:=⟨kk-1,by omega⟩;have bW:ki=(j:Int):=by omega
   subst bW;have cR:(j:Int)<D:=by omega
   have aP:(0:Int)<=j:=by omega
   obtain⟨r,hr⟩:∃r,(reps E b)[j]?=some r:=⟨(reps E b)[j]'(by have:=ak.out;unfold cnt at this;omega),Zd _⟩;have cD:=reps_mem hr;have bu:r<256:=by omega
   have ce:(r:Int)<256:=by omega
   have bq:=rep_like HE.out av hr;rw[<-aV.out]at bq;have bL:=hyd bq;have ax:(YS E b).getD j 0=(r:Int):=by simp[YS,Zf,hr]
   have cj:Hid (∀w',CK w rules E b (.slice fa D fc) (YS E b) w'->∃g o,fa=some (a_ g o)/\w'.cell? (a_ g (o+j))=some (I6 (r:Int))):=λw' h=>by
    obtain⟨cQ,cI,aA,b5⟩:=h.f.il;have cE:=(Value.slice.inj aA).1;rw[<-cE]at b5;obtain⟨g,o,e,c2⟩:=b5 j (by rw[YJ,<-ak.out];omega);simp only[ax]at c2;exact⟨g,o,e,c2⟩
   have bH:=hyd2 ae aw;have u:=hyd n;clear bq hr cD ax ae aw bV n;go_wp2
   go_loopw [14,15] (λs x w'=>∃(i:Nat) (sv:Bool),i<=ol/\x=I6 i/\s=.bool sv/\sv=Cl rows i b r/\CK w rules E b (.slice fa D fc) (YS E b) w') (λ_ x _=>ol-(intOf x).toNat)
   ·exact⟨0,true,by omega,rfl,rfl,rfl,u⟩
   clear u;obtain⟨i,sv,hi,rfl,rfl,aR,n⟩:=hrel;by_cases cz:i<ol
   ·have cN:(i:Int)<ol:=by omega
    obtain⟨_,_,bP⟩:=HP.out wr n.b;obtain⟨rb,ro,xa,xc,a8,aH,aj⟩:=bP i cz;subst a8;obtain⟨xb,xo,a9,co⟩:=aj b av;subst a9;obtain⟨cY,cZ,bO,cq⟩:=aj r bu;cases bO;obtain⟨fg,fo,aI,cf⟩:=cj.out wr n;subst aI;obtain⟨v1,bv⟩:=nam (rows i b);obtain⟨v2,aA⟩:=nam (rows i r);have bG:Hid (Cl rows (i+1) b r=(sv&&(v1==v2))):=by show _=_;rw[Di,<-aR,bv,aA]
    rw[<-bv]at co;rw[<-aA]at cq;have u:=hyd n;clear n bP aj bv aA aR;cases sv
    ·go_wp2
     go_quiet (fail)
     go_wp2;go_roundw
     ·exact⟨i+1,false,by omega,by go_num,rfl,by rw[bG.out];rfl,u.out.below (WL _ _ _)⟩
     simp[intOf];omega
    go_wp2
    go_quiet (fail)
    go_wp2;go_roundw
    ·exact⟨i+1,v1==v2,by omega,by go_num,rfl,by rw[bG.out,Bool.true_and],u.out.below (WL _ _ _)⟩
    simp[intOf];omega
   have⟨hge2,hio⟩:¬(i:Int)<ol/\i=ol:=by omega
   have hs2:sv=E r b:=by rw[aR,hio,Dj,aC.out]
   have u:=hyd n;clear n aR hio;cases sv
   ·have cU:j≠id:=λe=>by have:=bL.out.2 e;rw[<-hs2]at this;cases this
    clear hs2;go_wp2;go_roundw
    ·exact⟨j,cv,(j:Int)-1,by omega,rfl,by go_num,rfl,λh=>bH.out.1 (by omega),λh=>bH.out.2 (by omega),u⟩
    simp[intOf]
   have bK:=hyd (bL.out.1 hs2.symm);clear hs2;go_wp2;go_roundw
   ·exact⟨j,j,(j:Int)-1,by omega,rfl,by go_num,rfl,λ_=>bK.out,λh=>by have:=bK.out;omega,u⟩
   simp[intOf]
  have cA:kk=0:=by omega
  subst cA;have aP:¬(0:Int)<=ki:=by omega
  have bS:cv=id:=ae (by omega);subst bS;clear bV;have aX:Hid (∀(v:Value) (l:List Int) (w':World),CK w rules E b v l w'->w'.cell? (a_ mb 1)=some (sL cb 256 256)/\w'.cell? (a_ cb b)=some (I6 0)/\w'.frozen? (a_ cb b)=false/\CK w rules E (b+1) v l (w'.setCell (a_ cb b) (I6 (cv:Int)))):=λv l w' h=>by
   have h1:=(h.m 1 _ rfl).1;obtain⟨h2,h3⟩:=h.c b _ (Xk _ av);rw[g_]at h2;have h4:=h.set av;unfold idxI at h4;rw[<-aV.out]at h4;rw[J.out,aE.out];exact⟨h1,h2,h3,h4⟩
  by_cases ab:cv=D
  ·have q1:((cv:Int)==(D:Int))=true:=by simp[ab]
   have hx:=box_bel wr (.cells #[I6 (b:Int)] 3);have aK:=n.f.below hx;have U:(wr.alloc (.cells #[I6 (b:Int)] 3)).cell? (a_ wr.heap.size 0)=some (I6 (b:Int)):=by rw[Zm];rfl
   have Q:=ZJ n.z hx.size;have u:=hyd n;have F:=YJ E b;rw[<-ak.out]at F;have bI:=hyd F;have e2:YS E b++[(b:Int)]=YS E (b+1):=by rw[Ww,if_pos (aU.out.1 ab)]
   have ci:=hyd e2;clear n hx F e2 ab ae aw;go_wp2_with (first|(at_builtin;refine Bm.wpList_append_int (by rfl) _ _ (by rfl) (w.heap.size+3) (.slice fa D fc) (YS E b) (by rfl) aK (by rw[bI.out];omega) wr.heap.size (b:Int) (by rfl) U Q _ rfl ?_;rw[bI.out];intro g cap w5 bc a cy cB;refine X9.out ?_));refine⟨?_⟩;rw[ci.out]at bc;have C5:=u.out.app bc a;obtain⟨y1,y2,y3,y4⟩:=aX.out _ _ w5 C5;have a3:=hyd y4;clear C5 y4 bc a cy cB aK U Q u
   (try simp only[psm])
   go_wp2;go_roundw
   ·exact⟨b+1,by omega,by go_num,a3⟩
   simp[intOf];omega
  have q1:((cv:Int)==(D:Int))=false:=by simp;omega
  have bZ:least E b≠b:=λe=>ab (aU.out.2 e)
  have e2:YS E (b+1)=YS E b:=by rw[Ww,if_neg bZ,List.append_nil]
  rw[<-e2]at n;obtain⟨y1,y2,y3,y4⟩:=aX.out _ _ wr n;have a3:=hyd y4;clear n y4 e2;go_wp2;go_roundw
  ·exact⟨b+1,by omega,by go_num,a3⟩
  simp[intOf];omega
 have⟨aP,hb2⟩:¬(b:Int)<256/\b=256:=by omega
 subst hb2;obtain⟨W0,bQ⟩:=nam wr;rw[<-bQ]at n ⊢;clear bQ wr;have ai:mb<W0.heap.size:=by have:=n.z;have:=J.out;omega
 obtain⟨fa,fc,aS,ag⟩:=n.f.il;obtain⟨I,bU⟩:=nam (reps E 256);have al:=hyd bU;obtain⟨D,R⟩:=nam (cnt E 256);have ak:=hyd R;have aO:D<=256:=by rw[R];exact cnt_le E 256
 rw[YJ,<-R]at aS ag;have bi:=n.f.blk;subst aS;have M0:MR mb W0 (I6 rules) (sL cb 256 256) (sN) (sN) (Tx vd O 0) (WQ rows I 0) W0:=by
  have h1:=n.m;rw[<-J.out,<-aE.out]at h1;exact⟨h1,OwnL.nil _ _,OwnL.nil _ _,λk hk=>(by cases hk),Zk _ _,λ_ _ _=>rfl⟩
 have bC:=hyd M0;have bD:Hid (∀(vl vn:Value) (ll ln:List Int) (w':World),MR mb W0 (I6 rules) (sL cb 256 256) vl vn ll ln w'->Bl w w'/\TC w.heap.size XL w'/\TC cb (inl (idxI E) 256) w'/\IL fa (λi=>(YS E 256).getD i 0) D w'):=λvl vn ll ln w' h=>by
  have e1:=J.out;have e2:=aE.out;refine⟨n.b.trans (h.b.mono (by omega)),n.t.block (h.k _ (by omega) (by omega)),?_,ag.heap (λk h1 ⟨o,e⟩=>h.k k h1 ?_)⟩
  ·have h1:=n.c;rw[<-e2,Yr (g:=idxI E) (λc hc=>by rw[if_pos hc])]at h1;exact h1.block (h.k _ (by omega) (by omega))
  have:=(bi k (by rw[e];rfl)).1;omega
 have bB:Hid (IL fa (λi=>(YS E 256).getD i 0) D W0/\(∀k o,fa=some (a_ k o)->k≠mb)):=⟨ag,λk o e=>by have:=(bi k (by rw[e];rfl)).1;have:=J.out;omega⟩;have ah:=hyd2 n.b n.z;clear n ag bi M0 bU R;go_wp2
 go_loopw [16] (λx w'=>∃(i:Nat) (vl vn:Value),i<=ol/\x=I6 i/\MR mb W0 (I6 rules) (sL cb 256 256) vl vn (Tx vd O i) (WQ rows I i) w') (λx _=>ol-(intOf x).toNat)
 ·exact⟨0,_,_,by omega,rfl,bC⟩
 clear bC;obtain⟨i,vl,vn,hi,rfl,Z⟩:=hrel;obtain⟨Bw,T0,T1,b6⟩:=bD.out _ _ _ _ wr Z;by_cases aQ:i<ol
 ·have cO:(i:Int)<ol:=by omega
  obtain⟨aL,aJ,aM⟩:=HP.out W0 ah.out.1;obtain⟨σ,hσ⟩:∃σ,O[i]?=some σ:=⟨O[i]'(by have:=am.out;omega),Zd _⟩;have b4:=cg.out σ (List.mem_of_getElem? hσ);have cP:(σ:Int)<N:=by omega
  have bw:O.getD i 0=σ:=by rw[Zf,hσ];rfl
  obtain⟨va,aB,a6,b7⟩:=aL.v;obtain⟨vb,vo,ct,a7⟩:=b7 σ b4;subst ct;obtain⟨ob,oo,cr,a5⟩:=aJ i aQ;subst cr;simp only[bw]at a5;obtain⟨y,hy⟩:=nam (vd σ);rw[<-hy]at a7;have aW:Hid (Tx vd O (i+1)=Tx vd O i++[y]):=by show _=_;rw[GB,bw,hy]
  have B:pb≠mb/\ob≠mb/\vb≠mb/\pb<W0.heap.size/\ob<W0.heap.size/\vb<W0.heap.size:=by
   obtain⟨cu,aK,_⟩:=HP.out w (Zk _ _);obtain⟨cF,cc,aZ,b8⟩:=cu.v;have g1:=Ze _ _ aZ;have g0:(Value.slice cF N cc)=.slice (some (a_ vb vo)) N aB:=by
    have:=ah.out.1.cell (p:=(a_ pb 0)) g1;rw[a6,aZ]at this;exact(Zh this).symm
   cases g0;obtain⟨b1,o1,e1,c1⟩:=b8 σ b4;cases e1;obtain⟨b2,o2,e2,c2⟩:=aK i aQ;cases e2;have g2:=Ze _ _ c1;have g3:=Ze _ _ c2;have:=ah.out.2;have:=J.out;simp only at g1 g2 g3;omega
  have aF:=hyd3 B.2.2.2.1 B.2.2.2.2.1 B.2.2.2.2.2;have H:Hid (∀(cd:Value) (ll':List Int) (w':World),MR mb W0 (I6 rules) (sL cb 256 256) cd vn ll' (WQ rows I i) w'->(λw'=>w'.cell? (a_ pb 0)=some (.slice (some (a_ vb vo)) N aB)/\w'.cell? (a_ ob (oo+i))=some (I6 (σ:Int))/\w'.cell? (a_ vb (vo+σ))=some (I6 y)) w'):=λcd ll' w' h=>⟨h.cell a6 B.1,h.cell a5 B.2.1,h.cell a7 B.2.2.1⟩
  obtain⟨s1,s2,s3⟩:=H.out _ _ wr Z;obtain⟨ca,a0,V,_⟩:=Z.ol.il;rw[QU]at V;have aG:=hyd V;have cm:=(Z.c 2 _ rfl).1;rw[V]at cm;have ay:(Tx vd O i).length<=1000000:=by rw[QU];omega
  have HZ:=hyd Z;clear Z Bw T0 T1 b6 aL aJ aM hσ bw a6 b7 a7 a5 hy B V;go_wp2;have ap:(λw'=>w'.cell? (a_ pb 0)=some (.slice (some (a_ vb vo)) N aB)/\w'.cell? (a_ ob (oo+i))=some (I6 (σ:Int))/\w'.cell? (a_ vb (vo+σ))=some (I6 y)) wr.drew:=⟨s1,s2,s3⟩;refine wp_region_held_drew (S:=λw'=>w'.cell? (a_ pb 0)=some (.slice (some (a_ vb vo)) N aB)/\w'.cell? (a_ ob (oo+i))=some (I6 (σ:Int))/\w'.cell? (a_ vb (vo+σ))=some (I6 y)) (by kernel_rfl) ap (λhHeld=>?_);refine tQ 0 ?_
  refine tQ 2 ?_
  refine tQ 3 ?_
  refine tQ 4 ?_
  refine tQ 5 ?_
  refine tQ 6 ?_
  refine tQ 7 ?_
  refine tQ 8 ?_
  refine tQ 9 ?_
  refine tQ 10 ?_
  refine tQ 11 ?_
  obtain⟨W3,d⟩:=nam (wr.drew.alloc (.cells #[I6 y] 3));have q4:=cm;have Zd:=HZ.out.below (Zk wr.heap.size wr).drew ai;have x3:Below wr.drew.heap.size wr.drew W3:=by rw[d];exact box_bel wr.drew _
  have Z3:=Zd.below x3 ai;have bz:W3.cell? (a_ mb 2)=some (.slice ca i a0):=by rw[<-aG.out];exact(Z3.c 2 _ rfl).1
  have X:=H.out _ _ W3 Z3;refine Tp (fuel:=3) 1 12 (oi:=?Hp1) (ok:=?Hpk) (vi:=.slice ca i a0) (vk:=.slice (some (a_ wr.drew.heap.size 0)) 1 1) (L:=#[true,true,true,true,true,true,true,true,true,true,true,true,true,false,false,false]) (A:=?HA) (w':=W3)
   ?Hh1 ?Hhk ?Hg1 ?Hgk ?Hr0 ?Hr1 ?Hr2 ?Hxi ?Hyi ?Hxk ?Hyk ?Hl1 ?Hl2 ?Hf1 ?Hf2 ?HhS ?HhSp ?Hfin
  case Hh1=>simp only[gel];rfl
  case Hhk=>simp only[gel];rfl
  case Hg1=>rfl
  case Hgk=>rfl
  case Hr0=>kernel_rfl
  case Hr1=>kernel_rfl
  case Hr2=>kernel_rfl
  case Hxi=>go_simp
  case Hyi=>clear d;simp only[psm];go_simp
  case Hxk=>rw[d];exact Xs _ rfl y rfl
  case Hyk=>rw[d];exact Xs _ rfl y rfl
  case Hl1=>kernel_rfl
  case Hl2=>kernel_rfl
  case Hf1=>simp only[psm];rfl
  case Hf2=>simp only[psm]
  case HhS=>exact hHeld
  case HhSp=>exact X
  have U:W3.cell? (a_ wr.drew.heap.size 0)=some (I6 y):=by rw[d,Zm];rfl
  have ao:=Z3.ol;have Q:=Z3.b.size;refine wpAnyH_ready (rs:=[13]) (by kernel_rfl) (by simp) ?_;refine AllReadyH.cons (o:=?oH13) ?hiH13 (λK hK=>?_) AllReadyH.nil
  case hiH13=>simp only[gel];rfl
  rw[if_pos (by rfl)];refine UG _ _ rfl W0.heap.size vl (Tx vd O i) (by rw[aG.out];rfl) ao ay wr.drew.heap.size y rfl U Q _ rfl ?_;intro g6 C w6 W a G bn;rw[<-aW.out]at W;rw[d]at a G;obtain⟨p1,p2,Z6⟩:=Zd.putL ai W a G;have bd:(λw'=>w'.cell? (a_ pb 0)=some (.slice (some (a_ vb vo)) N aB)/\w'.cell? (a_ ob (oo+i))=some (I6 (σ:Int))/\w'.cell? (a_ vb (vo+σ))=some (I6 y)) w6:=by
   have ac:=Zd.ol.blk;obtain⟨y1,y2,y3⟩:=X;rw[d]at y1 y2 y3;obtain⟨z1,z2,z3⟩:=aF.out;refine⟨?_,?_,?_⟩
   ·rw[a.cell_far _ (Ze _ _ y1) (λe=>by have:=(ac _ e.symm).1;simp only at this;omega)];exact y1
   ·rw[a.cell_far _ (Ze _ _ y2) (λe=>by have:=(ac _ e.symm).1;simp only at this;omega)];exact y2
   rw[a.cell_far _ (Ze _ _ y3) (λe=>by have:=(ac _ e.symm).1;simp only at this;omega)];exact y3
  refine hK.out _ _ bd (λhHeld=>?_);clear hK K;obtain⟨W7,Y⟩:=nam (w6.setCell (a_ mb 2) (sL g6 ((Tx vd O i).length+1) C));rw[<-Y]at Z6;have aD:=hyd Y;have aN:=H.out _ _ W7 Z6;rw[aG.out]at p1
  (try simp only[psm])
  clear Y W a G bn Z3 ao Q U Zd x3 q4 bz d cm HZ X ap s1 s2 s3;refine tQ 14 ?_
  refine wpAnyH_ready (rs:=[15]) (by kernel_rfl) (by simp) ?_;refine AllReadyH.cons (o:=?oH15) ?hiH15 (λK hK=>?_) AllReadyH.nil
  case hiH15=>simp only[gel];rfl
  go_simp;rw[<-aD.out];refine hK.out _ _ aN (λhHeld=>?_);clear hK K;refine wpAnyH_done (by kernel_rfl) ?_ _;go_wp2
  (try simp only[Act.put])
  rw[QU]at Z6;have bF:Hid (MR mb W0 (I6 rules) (sL cb 256 256) (sL g6 (i+1) C) vn (Tx vd O (i+1)) (WQ rows I i++Us rows I i 0) W7):=by
   show MR _ _ _ _ _ _ _ _ _;rw[show Us rows I i 0=[] from rfl,List.append_nil];exact Z6
  clear Z6 aN hHeld p1 p2 aD H aF aG aW;go_wp2
  go_loopw [17] (λx w'=>∃(c:Nat) (vn:Value),c<=D/\x=I6 c/\MR mb W0 (I6 rules) (sL cb 256 256) (sL g6 (i+1) C) vn (Tx vd O (i+1)) (WQ rows I i++Us rows I i c) w') (λx _=>D-(intOf x).toNat)
  ·exact⟨0,_,by omega,rfl,bF⟩
  clear bF;obtain⟨c,vn,hc,rfl,Z⟩:=hrel;have F:I.length=D:=by rw[al.out,ak.out];rfl
  by_cases bf:c<D
  ·have cL:(c:Int)<D:=by omega
   obtain⟨aL,aJ,aM⟩:=HP.out W0 ah.out.1;obtain⟨κ,hκ⟩:∃κ,I[c]?=some κ:=⟨I[c]'(by omega),Zd _⟩;have b3:κ<256:=by have h:=hκ;rw[al.out]at h;exact(reps_mem h).1
   have cV:(κ:Int)<256:=by omega
   obtain⟨fg,fo,aI,cf⟩:=bB.out.1 c bf;have bT:=bB.out.2 _ _ aI;subst aI;have ax:(YS E 256).getD c 0=(κ:Int):=by
    rw[YS,<-al.out];simp[Zf,hκ]
   simp only[ax]at cf;obtain⟨rb,ro,xa,xc,a8,aH,aj⟩:=aM i aQ;subst a8;obtain⟨xb,xo,a9,cx⟩:=aj κ b3;subst a9;obtain⟨x,hx⟩:=nam (rows i κ);rw[<-hx]at cx;have B:rb≠mb/\xb≠mb/\rb<W0.heap.size/\fg<W0.heap.size/\xb<W0.heap.size:=by
    obtain⟨_,_,cw⟩:=HP.out w (Zk _ _);obtain⟨cW,cX,cG,cH,bN,aY,b9⟩:=cw i aQ;cases bN;have g1:=Ze _ _ aY;have g0:(Value.slice cG 256 cH)=.slice (some (a_ xb xo)) 256 xc:=by
     have:=ah.out.1.cell (p:=(a_ rb (ro+i))) g1;rw[aH,aY]at this;exact(Zh this).symm
    cases g0;obtain⟨b1,o1,e1,c1⟩:=b9 κ b3;cases e1;have g2:=Ze _ _ c1;have g3:=Ze _ _ cf;have:=ah.out.2;have:=J.out;simp only at g1 g2 g3;omega
   have aF:=hyd3 B.2.2.1 B.2.2.2.1 B.2.2.2.2;have H:Hid (∀(vn':Value) (ln':List Int) (w':World),MR mb W0 (I6 rules) (sL cb 256 256) (sL g6 (i+1) C) vn' (Tx vd O (i+1)) ln' w'->(λw'=>w'.cell? (a_ rb (ro+i))=some (.slice (some (a_ xb xo)) 256 xc)/\w'.cell? (a_ fg (fo+c))=some (I6 (κ:Int))/\w'.cell? (a_ xb (xo+κ))=some (I6 x)) w'):=λvn' ln' w' h=>⟨h.cell aH B.1,h.cell cf bT,h.cell cx B.2.1⟩
   obtain⟨s1,s2,s3⟩:=H.out _ _ wr Z;have bM:Hid (WQ rows I i++Us rows I i (c+1)=(WQ rows I i++Us rows I i c)++[x]):=by
    show _=_;rw[Mt,Zs,Zf,hκ,hx];rfl
   obtain⟨LN,bb⟩:=nam (WQ rows I i++Us rows I i c);rw[<-bb]at Z bM;have ay:LN.length<=1000000:=by
    rw[bb,Zl,Ur,Oa,F];have h1:i*D<=200*256:=Nat.mul_le_mul (by omega) (by omega);omega
   obtain⟨na,a1,M,_⟩:=Z.on.il;obtain⟨a2,bX⟩:=nam LN.length;rw[<-bX]at M;have a4:=hyd M;have cm:=(Z.c 3 _ rfl).1;rw[M]at cm;have HZ:=hyd Z;obtain⟨gL,bj⟩:=nam g6;obtain⟨cJ,aa⟩:=nam C;rw[<-bj,<-aa]at HZ H;have bJ:=hyd2 bj aa;clear Z aL aJ aM hκ cf ax aH aj cx hx B bb M bX F bj aa bT;go_wp2;have ap:(λw'=>w'.cell? (a_ rb (ro+i))=some (.slice (some (a_ xb xo)) 256 xc)/\w'.cell? (a_ fg (fo+c))=some (I6 (κ:Int))/\w'.cell? (a_ xb (xo+κ))=some (I6 x)) wr.drew:=⟨s1,s2,s3⟩;refine wp_region_held_drew (S:=λw'=>w'.cell? (a_ rb (ro+i))=some (.slice (some (a_ xb xo)) 256 xc)/\w'.cell? (a_ fg (fo+c))=some (I6 (κ:Int))/\w'.cell? (a_ xb (xo+κ))=some (I6 x)) (by kernel_rfl) ap (λhHeld=>?_);refine tQ 0 ?_
   refine tQ 2 ?_
   refine tQ 3 ?_
   refine tQ 4 ?_
   refine tQ 5 ?_
   refine tQ 6 ?_
   refine tQ 7 ?_
   refine tQ 8 ?_
   refine tQ 9 ?_
   refine tQ 10 ?_
   refine tQ 11 ?_
   obtain⟨W3,d⟩:=nam (wr.drew.alloc (.cells #[I6 x] 3));have q4:=cm;have Zd:=HZ.out.below (Zk wr.heap.size wr).drew ai;have x3:Below wr.drew.heap.size wr.drew W3:=by rw[d];exact box_bel wr.drew _
   have Z3:=Zd.below x3 ai;have bz:W3.cell? (a_ mb 3)=some (.slice na a2 a1):=by rw[<-a4.out];exact(Z3.c 3 _ rfl).1
   have X:=H.out _ _ W3 Z3;refine Tp (fuel:=3) 1 12 (oi:=?Jp1) (ok:=?Jpk) (vi:=.slice na a2 a1) (vk:=.slice (some (a_ wr.drew.heap.size 0)) 1 1) (L:=#[true,true,true,true,true,true,true,true,true,true,true,true,true,false,false,false]) (A:=?JA) (w':=W3)
    ?Jh1 ?Jhk ?Jg1 ?Jgk ?Jr0 ?Jr1 ?Jr2 ?Jxi ?Jyi ?Jxk ?Jyk ?Jl1 ?Jl2 ?Jf1 ?Jf2 ?JhS ?JhSp ?Jfin
   case Jh1=>simp only[gel];rfl
   case Jhk=>simp only[gel];rfl
   case Jg1=>rfl
   case Jgk=>rfl
   case Jr0=>kernel_rfl
   case Jr1=>kernel_rfl
   case Jr2=>kernel_rfl
   case Jxi=>go_simp
   case Jyi=>clear d;simp only[psm];go_simp
   case Jxk=>rw[d];exact Xs _ rfl x rfl
   case Jyk=>rw[d];exact Xs _ rfl x rfl
   case Jl1=>kernel_rfl
   case Jl2=>kernel_rfl
   case Jf1=>simp only[psm];rfl
   case Jf2=>simp only[psm]
   case JhS=>exact hHeld
   case JhSp=>exact X
   have U:W3.cell? (a_ wr.drew.heap.size 0)=some (I6 x):=by rw[d,Zm];rfl
   have ao:=Z3.on;have Q:=Z3.b.size;refine wpAnyH_ready (rs:=[13]) (by kernel_rfl) (by simp) ?_;refine AllReadyH.cons (o:=?oJ13) ?hiJ13 (λK hK=>?_) AllReadyH.nil
   case hiJ13=>simp only[gel];rfl
   rw[if_pos (by rfl)];refine UG _ _ rfl W0.heap.size vn LN (by rw[a4.out];rfl) ao ay wr.drew.heap.size x rfl U Q _ rfl ?_;intro g6 C w6 W a G bn;rw[<-bM.out]at W;rw[d]at a G;obtain⟨p1,p2,Z6⟩:=Zd.putN ai W a G;have bd:(λw'=>w'.cell? (a_ rb (ro+i))=some (.slice (some (a_ xb xo)) 256 xc)/\w'.cell? (a_ fg (fo+c))=some (I6 (κ:Int))/\w'.cell? (a_ xb (xo+κ))=some (I6 x)) w6:=by
    have ac:=Zd.on.blk;obtain⟨y1,y2,y3⟩:=X;rw[d]at y1 y2 y3;obtain⟨z1,z2,z3⟩:=aF.out;refine⟨?_,?_,?_⟩
    ·rw[a.cell_far _ (Ze _ _ y1) (λe=>by have:=(ac _ e.symm).1;simp only at this;omega)];exact y1
    ·rw[a.cell_far _ (Ze _ _ y2) (λe=>by have:=(ac _ e.symm).1;simp only at this;omega)];exact y2
    rw[a.cell_far _ (Ze _ _ y3) (λe=>by have:=(ac _ e.symm).1;simp only at this;omega)];exact y3
   refine hK.out _ _ bd (λhHeld=>?_);clear hK K;obtain⟨W7,Y⟩:=nam (w6.setCell (a_ mb 3) (sL g6 (LN.length+1) C));rw[<-Y]at Z6;have aD:=hyd Y;have aN:=H.out _ _ W7 Z6;rw[a4.out]at p1
   (try simp only[psm])
   clear Y W a G bn Z3 ao Q U Zd x3 q4 bz d cm HZ X ap s1 s2 s3;refine tQ 14 ?_
   refine wpAnyH_ready (rs:=[15]) (by kernel_rfl) (by simp) ?_;refine AllReadyH.cons (o:=?oJ15) ?hiJ15 (λK hK=>?_) AllReadyH.nil
   case hiJ15=>simp only[gel];rfl
   go_simp;rw[<-aD.out];refine hK.out _ _ aN (λhHeld=>?_);clear hK K;refine wpAnyH_done (by kernel_rfl) ?_ _;go_wp2
   (try simp only[Act.put])
   rw[bJ.out.1,bJ.out.2]at Z6;go_roundw
   ·exact⟨c+1,_,by omega,by go_num,Z6⟩
   simp[intOf];omega
  have⟨aP,ab⟩:¬(c:Int)<D/\c=D:=by omega
  have Z2:MR mb W0 (I6 rules) (sL cb 256 256) (sL g6 (i+1) C) vn (Tx vd O (i+1)) (WQ rows I (i+1)) wr:=by
   rw[Qr,F,<-ab];exact Z
  clear Z F ab;go_wp2;go_roundw
  ·exact⟨i+1,_,_,by omega,by go_num,Z2⟩
  simp[intOf];omega
 have⟨aP,hiN⟩:¬(i:Int)<ol/\i=ol:=by omega
 rw[hiN]at Z;have rM:=Z.c.range;have tz:=T0.there;have e1:=J.out;have e2:=aE.out;obtain⟨la,lc,V,bx⟩:=Z.ol.il;rw[QU]at V bx;obtain⟨na,nc,M,aT⟩:=Z.on.il;rw[Ur]at M aT;have F:I.length=cnt E 256:=by rw[al.out];rfl
 rw[F]at M aT;have bp:=Z.ol.blk;have bt:=Z.on.blk;subst V;subst M;have an:=Y8 w.heap.size [I6 rules,sL cb 256 256,.slice la ol lc,.slice na (ol*cnt E 256) nc] 0 wr;have b0:=Zo wr w.heap.size 0 [I6 rules,sL cb 256 256,.slice la ol lc,.slice na (ol*cnt E 256) nc] tz;have af:=ZF (P:=Tryz.prog) (wr.setCells w.heap.size 0 [I6 rules,sL cb 256 256,.slice la ol lc,.slice na (ol*cnt E 256) nc]) w.heap.size 0 25 [I6 rules,sL cb 256 256,.slice la ol lc,.slice na (ol*cnt E 256) nc] _ b0 u_j rfl Yl;have BX:=Bw.grown an Bw.size (λq hq=>by cases hq;omega);have HR:Hid (Cc rules O rows vd w (.returned (.agg #[I6 rules,sL cb 256 256,.slice la ol lc,.slice na (ol*cnt E 256) nc])) (wr.setCells w.heap.size 0 [I6 rules,sL cb 256 256,.slice la ol lc,.slice na (ol*cnt E 256) nc])):=by
  refine⟨BX,some (a_ cb 0),256,la,lc,na,nc,?_,⟨?_,?_,?_⟩,?_,?_,?_⟩
  ·rw[<-am.out,<-aC.out]
  ·intro k o e;cases e;omega
  ·intro k o e;have:=(bp k (by rw[e];rfl)).1;omega
  ·intro k o e;have:=(bt k (by rw[e];rfl)).1;omega
  ·rw[<-am.out,<-aC.out];exact(FE T1).heap (λk hl ⟨o,e⟩=>an.block k hl (λh=>by cases e;have:=Zh h;omega))
  ·rw[<-am.out];exact(bx.heap (λk hl ⟨o,e⟩=>an.block k hl (λh=>by have:=Zh h;have:=(bp k (by rw[e];rfl)).1;omega))).congr (λi hi=>DI vd O hi)
  rw[<-am.out,<-aC.out,<-al.out];exact aT.heap (λk hl ⟨o,e⟩=>an.block k hl (λh=>by have:=Zh h;have:=(bt k (by rw[e];rfl)).1;omega))
 obtain⟨nn,bY⟩:=nam (ol*cnt E 256);rw[<-bY]at af HR rM;obtain⟨WX,be⟩:=nam (wr.setCells w.heap.size 0 [I6 rules,sL cb 256 256,.slice la ol lc,.slice na nn nc]);rw[<-be]at af HR;have ch:=hyd be;have Hfin:=hyd af;clear Z Bw T0 T1 b6 an b0 af BX bp bt bx aT be e1 e2 hiN F bY;go_wp2_with (first|(with_reducible refine gld 25 ?_;refine X9.out ?_));refine⟨?_⟩;refine Zb rfl 25 _ rfl mb 0 rfl [I6 rules,sL cb 256 256,.slice la ol lc,.slice na nn nc] _ rM u_j rfl Yl ?_
 (try simp only[psm])
 refine Za rfl 25 _ _ rfl w.heap.size 0 #[I6 rules,sL cb 256 256,.slice la ol lc,.slice na nn nc] rfl rfl tz Yl (by simp[Value.oneCell']) ?_;rw[Zc,<-ch.out];go_wp2;exact Zr (v:=.agg #[I6 rules,sL cb 256 256,.slice la ol lc,.slice na nn nc]) (res_load1 Tryz.results31 rfl Hfin.out) rfl HR.out
end
section
open Bm
variable {n:Nat}{E:Nat->N_}{nx:Nat->Nat->Int}
theorem CP {x:Nat} (z:x<n) (y:least E x=x):RI (reps E n) x=(cnt E x:Int):=by
 have h1:=reps_get E n x z y;have b:=List.mem_of_getElem? h1;unfold RI;rw[if_pos b];obtain⟨h2,h3⟩:=Zi.1 h1;have a:=(Ji E n).idxOf_getElem (cnt E x) h2;rw[h3]at a;rw[a]
variable {A:Aut}
theorem GV (h:Pn A E nx) {s b:Nat} (hs:s<cnt (alB A) A.N) (y:b<256):RN A nx (reps (alB A) A.N) s b=Yz A (alB A) s (idx E b):=by
 obtain⟨r,i⟩:∃r,(reps (alB A) A.N)[s]?=some r:=⟨_,Zd hs⟩;have f:(reps (alB A) A.N).getD s 0=r:=by rw[Zf,i];rfl
 obtain⟨a,_,_⟩:=reps_mem i;unfold RN Yz gAt;rw[f];obtain⟨h1,h2⟩:=h.to (ZM a) y;rw[g_]at h2;have k:=h.g.rng r _ a (h.kk y);by_cases e:A.to r (idx E b)=-1
 ·rw[if_pos e];have c:Ud A.N nx r b=A.N:=by
   rw[e]at h2;unfold st at h2;by_cases e2:Ud A.N nx r b=A.N
   ·exact e2
   rw[if_neg e2]at h2;omega
  rw[c,NM];unfold RI;rw[if_neg];intro l;rw[SY]at l;omega
 rw[if_neg e];have c:Ud A.N nx r b≠A.N:=λe2=>by
  unfold st at h2;rw[if_pos e2]at h2;exact e h2.symm
 have d:Ud A.N nx r b<A.N:=by omega
 unfold st at h2;rw[if_neg c]at h2;rw[<-h2,ZE];unfold US;rw[if_neg c];have j:=least_le (alB A) (Ud A.N nx r b);rw[CP (by omega) (least_idem (alB_eqv A A.N) d)];rfl
theorem NU (h:Pn A E nx) (kf:Nat->Int) (y:∀b,b<256->kf b=idxI E b):
  (∀b,b<256->(TL (Cl (Yz A (alB A)) (cnt (alB A) A.N)) kf 256).getD b 0=idxI (Cl (RN A nx (reps (alB A) A.N)) (cnt (alB A) A.N)) b) /\
  cnt (Cl (RN A nx (reps (alB A) A.N)) (cnt (alB A) A.N)) 256=cnt (Cl (Yz A (alB A)) (cnt (alB A) A.N)) A.K /\
  WQ (RN A nx (reps (alB A) A.N)) (reps (Cl (RN A nx (reps (alB A) A.N)) (cnt (alB A) A.N)) 256) (cnt (alB A) A.N)=WQ (Yz A (alB A)) (reps (Cl (Yz A (alB A)) (cnt (alB A) A.N)) A.K) (cnt (alB A) A.N):=by
 obtain⟨S,p⟩:=nam (cnt (alB A) A.N);obtain⟨O,o⟩:∃O,O=reps (alB A) A.N:=⟨_,rfl⟩;have c:∀s b,s<S->b<256->RN A nx O s b=Yz A (alB A) s (idx E b):=λs b hs f=>by rw[o];rw[p]at hs;exact GV h hs f
 rw[<-p,<-o];have n:A.K=cnt E 256:=h.k;have P:No E (Cl (Yz A (alB A)) S) (Cl (RN A nx O) S) A.K:=by
  refine⟨h.e,n,Nh _ _ _,Nh _ _ _,λa b ha f=>?_⟩;rw[Bool.eq_iff_iff,UT,UT];constructor
  ·intro g s hs;rw[<-c s a hs ha,<-c s b hs f];exact g s hs
  intro g s hs;rw[c s a hs ha,c s b hs f];exact g s hs
 have d:=P.reps_to 256 (Zg _);rw[<-n]at d;refine⟨λb f=>?_,?_,?_⟩
 ·rw[Zf,TL,List.getElem?_map,List.getElem?_range f];simp only[Option.map_some,Option.getD_some];rw[y b f];unfold idxI;rw[ZE,P.ix f]
 ·unfold cnt;rw[d,Zy]
 rw[d];unfold WQ;refine NK (λs hs=>?_);have l:=ZI.1 hs;unfold Us;rw[Zy];refine ZO (λj t=>?_);have i:=ZI.1 t;obtain⟨κ,m⟩:∃κ,(reps (Cl (Yz A (alB A)) S) A.K)[j]?=some κ:=⟨_,Zd i⟩;obtain⟨k1,_,_⟩:=reps_mem m;obtain⟨r,u,v,_,_,w⟩:=P.rep k1;have q:(reps (Cl (Yz A (alB A)) S) A.K).getD j 0=κ:=by rw[Zf,m];rfl
 have e2:((reps (Cl (Yz A (alB A)) S) A.K).map λk=>(reps E 256).getD k 0).getD j 0=r:=by
  rw[Zf,List.getElem?_map,m];simp only[Option.map_some,Option.getD_some];rw[Zf,u];rfl
 rw[q,e2,c s r l v,w]
end
end Go.Proofs.YtoaaklhpmhjhkaaGreat
