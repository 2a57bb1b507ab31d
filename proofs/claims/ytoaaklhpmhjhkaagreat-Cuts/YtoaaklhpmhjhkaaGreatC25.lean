import Derived.Test.YtoaaklhpmhjhkaaGreatC24
set_option maxRecDepth 100000
set_option maxHeartbeats 4000000
set_option linter.all false
namespace Go.Proofs.YtoaaklhpmhjhkaaGreat
open Go.Proofs.Tryz
section
open Go.RowKit
open Bm
def zr(rw:Nat->Nat->Int)(S a b:Nat):Cl rw (S+1) a b=(Cl rw S a b&&(rw S a==rw S b)):=by simp[Cl,ZT]
def zs(rw:Nat->Nat->Int)(S a b:Nat):Cl rw S a b=Cl rw S b a:=by
 rw[eA,Vg,Vg];exact⟨λh s hs=>(h s hs).symm,λh s hs=>(h s hs).symm⟩
structure CK (w:World) (rules:Nat) (E:Nat->Nat->Bool) (b:Nat) (vf:Value) (lf:List Int) (w':World):Prop where
 t:TC w.heap.size XD w'
 c:TC (w.heap.size+1) (inl (fun j=>if j<b then idxI E j else 0) 256) w'
 m:TC (w.heap.size+2) [.int .i64 rules,.slice (some ⟨w.heap.size+1,0,none⟩) 256 256,.slice none 0 0,.slice none 0 0] w'
 f:OwnL (w.heap.size+3) vf lf w'
 b:Below w.heap.size w w'
 z:w.heap.size+3<=w'.heap.size
variable {lf lf' ll ll' ln ln':List Int}{B b cap g mb n rules:Nat}{kf:Nat->Int}{E:Nat->N_}{nx:Nat->Nat->Int}{ob:Obj}{ad:Option Addr}{v0 vc vf vl vn:Value}{W0 w w' w'' w5:World}
def CK.below(h:CK w rules E b vf lf w')(H:Bl w' w''):CK w rules E b vf lf w'':=by
 have hz:=h.z;have:=H.size;exact⟨h.t.block (H.block _ Qo),h.c.block (H.block _ Qo),h.m.block (H.block _ Qo),h.f.below H,h.b.trans (H.mono h.b.size),Qo⟩
def CK.app(h:CK w rules E b vf lf w')(J:OwnL (w.heap.size+3) (sL g n cap) lf' w5)(H:(w'.alloc ob).grownBy w5 vf.ownBlock):CK w rules E b (sL g n cap) lf' w5:=by
 have x:=box_bel w' ob;have a:=h.below x;have hz:=a.z;have hs:=H.size;have d:=h.f.blk;exact⟨a.t.block (H.block _ Qo (λe=>by have:=(d _ e.symm).1;omega)),a.c.block (H.block _ Qo (λe=>by have:=(d _ e.symm).1;omega)),a.m.block (H.block _ Qo (λe=>by have:=(d _ e.symm).1;omega)),J,a.b.grown H a.b.size (λq i=>by have:=(d q i).1;omega),Qo⟩
def CK.set(h:CK w rules E b vf lf w')(H:b<256):CK w rules E (b+1) vf lf (w'.setCell (a_ (w.heap.size+1) b) (I6 (idxI E b))):=by
 have hz:=h.z;have d:=h.f.blk;have a:∀q,q≠w.heap.size+1->(w'.setCell (a_ (w.heap.size+1) b) (I6 (idxI E b))).heap[q]?=w'.heap[q]?:=λq j=>Zq w' (a_ (w.heap.size+1) b) _ q (λe=>j e)
 refine⟨h.t.block (a _ Qo),?_,h.m.block (a _ Qo),h.f.keep (λk i=>a k (by have:=(d k i).1;omega)),h.b.setCell (p:=(a_ (w.heap.size+1) b)) (by show _<=w.heap.size+1;omega) _,by rw[Zz];exact hz⟩;have h1:=h.c.set b (by rw[Xr];exact H) (I6 (idxI E b));rw[WA]at h1;rw[Yn (g:=λc=>if c=b then idxI E b else if c<b then idxI E c else 0) (λc _=>?_)]
 .exact h1
 by_cases e:c=b
 .subst e;simp
 by_cases e2:c<b
 .simp[e,e2,show c<b+1 by omega]
 simp[e,e2,show ¬c<b+1 by omega]
structure MR (mb:Nat) (W0:World) (v0 vc vl vn:Value) (ll ln:List Int) (w':World):Prop where
 c:TC mb [v0,vc,vl,vn] w'
 ol:OwnL W0.heap.size vl ll w'
 on:OwnL W0.heap.size vn ln w'
 n3:∀k,vl.ownBlock=some k->vn.ownBlock≠some k
 b:Below mb W0 w'
 k:∀k,k<W0.heap.size->k≠mb->w'.heap[k]?=W0.heap[k]?
def MR.below(h:MR mb W0 v0 vc vl vn ll ln w')(z:Bl w' w'')(H:mb<W0.heap.size):MR mb W0 v0 vc vl vn ll ln w'':=
 ⟨h.c.below z,h.ol.below z,h.on.below z,h.n3,h.b.trans (z.mono (by have:=h.b.size;omega)),λk h1 h2=>by rw[z.block k (by have:=h.b.size;omega)];exact h.k k h1 h2⟩
def MR.putL(h:MR mb W0 v0 vc vl vn ll ln w')(Y:mb<W0.heap.size)(J:OwnL W0.heap.size (sL g n cap) ll' w5)(z:(w'.alloc ob).grownBy w5 vl.ownBlock)(H:vl.ownBlock=some g\/g=(w'.alloc ob).heap.size):
  w5.cell? (a_ mb 2)=some vl/\w5.frozen? (a_ mb 2)=false/\MR mb W0 v0 vc (sL g n cap) vn ll' ln (w5.setCell (a_ mb 2) (sL g n cap)):=by
 have x:=box_bel w' ob;have hz:(w'.alloc ob).heap.size=w'.heap.size+1:=Qs
 have a:=h.below x Y;have j:=h.ol.blk;have l:=h.on.blk;have hs:=h.b.size;have d:=a.c.block (z.block _ a.c.lt (λe=>by have:=(j _ e.symm).1;omega));let⟨c1,c2⟩:=d 2 _ rfl;have i:∀q,q≠mb->(w5.setCell (a_ mb 2) (sL g n cap)).heap[q]?=w5.heap[q]?:=λq f=>Zq w5 (a_ mb 2) _ q (λe=>f e)
 have m:=(J.blk g rfl).1;refine⟨c1,c2,d.set 2 Qs _,J.keep (λq f=>i q (by cases f;show g≠mb;omega)),(a.on.grown z (λq f e=>h.n3 q e f)).keep (λq f=>i q (λe=>by have:=(l q f).1;omega)),λq f e=>?_,?_,λq h1 h2=>?_⟩
 .have e2:=Zh f;subst e2;rcases H with h1|h1
  .exact h.n3 g h1 e
  have:=(l g e).2;omega
 .exact(a.b.grown z (by have:=a.b.size;omega) (λq f=>by have:=(j q f).1;omega)).setCell (p:=(a_ mb 2)) (Zg _) _
 rw[i q h2,z.block q Qo (λe=>by have:=(j q e.symm).1;omega)];exact a.k q h1 h2
def MR.putN(h:MR mb W0 v0 vc vl vn ll ln w')(Y:mb<W0.heap.size)(J:OwnL W0.heap.size (sL g n cap) ln' w5)(z:(w'.alloc ob).grownBy w5 vn.ownBlock)(H:vn.ownBlock=some g\/g=(w'.alloc ob).heap.size):
  w5.cell? (a_ mb 3)=some vn/\w5.frozen? (a_ mb 3)=false/\MR mb W0 v0 vc vl (sL g n cap) ll ln' (w5.setCell (a_ mb 3) (sL g n cap)):=by
 have x:=box_bel w' ob;have hz:(w'.alloc ob).heap.size=w'.heap.size+1:=Qs
 have a:=h.below x Y;have j:=h.on.blk;have l:=h.ol.blk;have hs:=h.b.size;have f:=a.c.block (z.block _ a.c.lt (λe=>by have:=(j _ e.symm).1;omega));let⟨c1,c2⟩:=f 3 _ rfl;have i:∀q,q≠mb->(w5.setCell (a_ mb 3) (sL g n cap)).heap[q]?=w5.heap[q]?:=λq d=>Zq w5 (a_ mb 3) _ q (λe=>d e)
 have m:=(J.blk g rfl).1;refine⟨c1,c2,f.set 3 Qs _,(a.ol.grown z (λq d e=>h.n3 q d e)).keep (λq d=>i q (λe=>by have:=(l q d).1;omega)),J.keep (λq d=>i q (by cases d;show g≠mb;omega)),λq d e=>?_,?_,λq h1 h2=>?_⟩
 .have e2:=Zh e;subst e2;rcases H with h1|h1
  .exact h.n3 g d h1
  have:=(l g d).2;omega
 .exact(a.b.grown z (by have:=a.b.size;omega) (λq d=>by have:=(j q d).1;omega)).setCell (p:=(a_ mb 3)) (Zg _) _
 rw[i q h2,z.block q Qo (λe=>by have:=(j q e.symm).1;omega)];exact a.k q h1 h2
def MR.cell(h:MR mb W0 v0 vc vl vn ll ln w'){a o:Nat}{v:Value}(z:W0.cell? (a_ a o)=some v)(ha:a≠mb):w'.cell? (a_ a o)=some v:=by
 rw[eZ (w:=W0) (a:=(a_ a o)) (h.k a (Ze W0 _ z) ha)];exact z
def SP(vd:Nat->Int)(O:List Nat)(i:Nat):List Int:=(List.range i).map λs=>vd (O.getD s 0)
def D8(vd:Nat->Int)(O:List Nat)(i:Nat):SP vd O (i+1)=SP vd O i++[vd (O.getD i 0)]:=by simp[SP,ZT]
def Qq(vd:Nat->Int)(O:List Nat)(i:Nat):(SP vd O i).length=i:=by simp[SP]
def Ac(vd:Nat->Int)(O:List Nat){i n:Nat}(h:i<n):(SP vd O n).getD i 0=vd (O.getD i 0):=by simp[SP,Zf,h]
def IR(pb N:Nat)(vd:Nat->Int)(nx:Nat->Nat->Int)(bs:List Nat)(oa:Option Addr)(oc:Nat)(O:List Nat)(ra:Option Addr)(rc:Nat)(rows:Nat->Nat->Int)(rules:Nat)(w:World)(hP:FB pb N vd nx bs w)(hO:IL oa (λi=>((O.getD i 0:Nat):Int)) O.length w)(hR:yp ra O.length rows w)(c9:O.length<=96)(hN:N<=200)(cn:∀x∈O,x<N)(da:rules<=8):
  Cp 31 #[pT pb,I6 rules,.slice oa O.length oc,.slice ra O.length rc] w (xT rules O rows vd w):=by
 have hz:=Wq;have HE:=hyd (Sp rows O.length 256);let⟨ol,ay⟩:=nam O.length;have al:=hyd ay;have HP:Hid (∀w',Bl w w'->FB pb N vd nx bs w'/\IL oa (λi=>((O.getD i 0:Nat):Int)) ol w'/\yp ra ol rows w'):=λw' h=>by
  rw[ay];refine⟨hP.below h,hO.below h,λi hi=>?_⟩;let⟨b,o,xa,xc,e,c,il⟩:=hR i hi;exact⟨b,o,xa,xc,e,by rw[h.cell (p:=(a_ b (o+i))) (Ze w _ c)];exact c,il.below h⟩
 have ch:=hyd cn;let⟨E,hE⟩:=nam (Cl rows ol);have aB:=hyd hE;rw[<-ay]at HE c9;rw[<-hE]at HE;rw[<-ay];have cE:(Instr.makeSlice 23 (I6 256) (I6 256)).run prog (w.alloc (.cells #[I6 0,sN,sN,sN] 25))=.ok (.slice (some (a_ (w.heap.size+1) 0)) 256 256) ((w.alloc (.cells #[I6 0,sN,sN,sN] 25)).alloc (.cells (XF 256).toArray 3)):=by
  have:=Vw (w.alloc (.cells #[I6 0,sN,sN,sN] 25)) 256 Qo;rw[World.size_alloc]at this;exact this
 let⟨Wa,ap⟩:=nam (w.alloc (.cells #[I6 0,sN,sN,sN] 25));let⟨Wb,aq⟩:=nam (Wa.alloc (.cells (XF 256).toArray 3));let⟨Wc,ar⟩:=nam (Wb.alloc (.cells #[I6 (rules:Int),.slice (some (a_ (w.heap.size+1) 0)) 256 256,sN,sN] 25));have za:Wa.heap.size=w.heap.size+1:=by rw[ap];simp
 have zb:Wb.heap.size=w.heap.size+2:=by rw[aq];simp[za]
 have zc:Wc.heap.size=w.heap.size+3:=by rw[ar];simp[zb]
 have xa:Bl w Wa:=by rw[ap];exact box_bel _ _
 have xb:Bl Wa Wb:=by rw[aq];exact box_bel _ _
 have xc:Bl Wb Wc:=by rw[ar];exact box_bel _ _
 have Ta:TC w.heap.size XD Wa:=by rw[ap];exact TC.boxed w XD _
 have Tb:TC (w.heap.size+1) (XF 256) Wb:=by rw[aq,<-za];exact TC.boxed Wa (XF 256) _
 have Tc:TC (w.heap.size+2) [I6 (rules:Int),.slice (some (a_ (w.heap.size+1) 0)) 256 256,sN,sN] Wc:=by rw[ar,<-zb];exact TC.boxed Wb [I6 (rules:Int),.slice (some (a_ (w.heap.size+1) 0)) 256 256,sN,sN] _
 have C0:CK w rules E 0 (sN) (YS E 0) Wc:=by
  refine⟨(Ta.block (xb.block _ Qo)).block (xc.block _ Qo),?_,Tc,OwnL.nil _ _,(xa.trans (xb.mono Qo)).trans (xc.mono Qo),Qo⟩;rw[Yn (g:=λ_=>0) (λc _=>by rw[g_])];exact Tb.block (xc.block _ Qo)
 have bz:=hyd C0;have bD:Hid (Wc=((w.alloc (.cells #[I6 0,sN,sN,sN] 25)).alloc (.cells (XF 256).toArray 3)).alloc (.cells #[I6 (rules:Int),.slice (some (a_ (w.heap.size+1) 0)) 256 256,sN,sN] 25)):=by show _=_;rw[ar,aq,ap]
 clear hP hO hR cn ay hE ap aq ar za zb zc xa xb xc Ta Tb Tc C0;go_enter func31,ntmps31;go_wp2;clear cE;rw[<-bD.o];clear bD;let⟨cb,bQ⟩:=nam (w.heap.size+1);have aD:=hyd bQ;let⟨mb,bp⟩:=nam (w.heap.size+2);have I:=hyd bp;rw[<-bp];clear bQ bp
 go_loopw [10,11] (λvf x w'=>∃b:Nat,b<=256/\x=I6 b/\CK w rules E b vf (YS E b) w') (λ_ x _=>256-(intOf x).toNat)
 .exact⟨0,Qo,rfl,bz⟩
 clear bz;obtain⟨b,hb,rfl,n⟩:=hrel;by_cases au:b<256
 .have cM:(b:Int)<256:=Qo
  let⟨fa,fc,aR,_⟩:=n.f.il;subst aR;rw[YH]at n;rw[YH];have R:=rep_new HE au;let⟨id,bj⟩:=nam (idx E b);rw[<-bj]at R;have aU:=hyd bj;clear bj;have be:=cnt_le E b;let⟨D,Q⟩:=nam (cnt E b);have aj:=hyd Q;rw[<-Q]at R be n ⊢;clear Q;have aT:=hyd R.1;have cP:=R.2;have aN:(D:Int)<256:=Qo
  clear R;have u:=hyd n;clear n;go_wp2
  go_loopw [12,13] (λc k w'=>∃(kk cv:Nat) (ki:Int),kk<=D/\ki=(kk:Int)-1/\k=I6 ki/\c=I6 cv/\(kk<=id->cv=id)/\(¬kk<=id->cv=D)/\CK w rules E b (.slice fa D fc) (YS E b) w') (λ_ k _=>(intOf k+1).toNat)
  .exact⟨D,D,(D:Int)-1,Qo,rfl,rfl,rfl,λh=>Qo,λ_=>rfl,u⟩
  clear u;obtain⟨kk,cv,ki,cW,bW,rfl,rfl,ac,av,n⟩:=hrel;by_cases cV:0<kk
  .obtain⟨j,rfl⟩:∃j,kk=j+1:=⟨kk-1,Qo⟩;have bX:ki=(j:Int):=Qo
   subst bX;have cU:(j:Int)<D:=Qo
   have aO:(0:Int)<=j:=Qo
   obtain⟨r,hr⟩:∃r,(reps E b)[j]?=some r:=⟨(reps E b)[j]'(by have:=aj.o;unfold cnt at this;omega),Zd _⟩;have cF:=reps_mem hr;have br:r<256:=Qo
   have cg:(r:Int)<256:=Qo
   have bo:=rep_like HE.o au hr;rw[<-aU.o]at bo;have bK:=hyd bo;have aw:(YS E b).getD j 0=(r:Int):=by simp[YS,Zf,hr]
   have co:Hid (∀w',CK w rules E b (.slice fa D fc) (YS E b) w'->∃g o,fa=some (a_ g o)/\w'.cell? (a_ g (o+j))=some (I6 (r:Int))):=λw' h=>by
    let⟨cT,cK,az,b6⟩:=h.f.il;have cG:=(fI az).1;rw[<-cG]at b6;let⟨g,o,e,c2⟩:=b6 j (by rw[YH,<-aj.o];omega);simp only[aw]at c2;exact⟨g,o,e,c2⟩
   have bG:=hyd2 ac av;have u:=hyd n;clear bo hr cF aw ac av bW n;go_wp2
   go_loopw [14,15] (λs x w'=>∃(i:Nat) (sv:Bool),i<=ol/\x=I6 i/\s=.bool sv/\sv=Cl rows i b r/\CK w rules E b (.slice fa D fc) (YS E b) w') (λ_ x _=>ol-(intOf x).toNat)
   .exact⟨0,true,Qo,rfl,rfl,rfl,u⟩
   clear u;obtain⟨i,sv,hi,rfl,rfl,aQ,n⟩:=hrel;by_cases cB:i<ol
   .have cQ:(i:Int)<ol:=Qo
    let⟨_,_,bO⟩:=HP.o wr n.b;let⟨rb,ro,xa,xc,a7,aG,ai⟩:=bO i cB;subst a7;let⟨xb,xo,a8,cq⟩:=ai b au;subst a8;let⟨c7,c8,bN,cr⟩:=ai r br;cases bN;let⟨fg,fo,aH,cf⟩:=co.o wr n;subst aH;let⟨v1,bt⟩:=nam (rows i b);let⟨v2,az⟩:=nam (rows i r);have bF:Hid (Cl rows (i+1) b r=(sv&&(v1==v2))):=by show _=_;rw[zr,<-aQ,bt,az]
    rw[<-bt]at cq;rw[<-az]at cr;have u:=hyd n;clear n bO ai bt az aQ;cases sv
    .go_wp2
     go_quiet (fail)
     go_wp2;go_roundw
     .exact⟨i+1,false,Qo,Qg,rfl,by rw[bF.o];rfl,u.o.below (WC _ _ _)⟩
     simp[intOf];omega
    go_wp2
    go_quiet (fail)
    go_wp2;go_roundw
    .exact⟨i+1,v1==v2,Qo,Qg,rfl,by rw[bF.o,dL],u.o.below (WC _ _ _)⟩
    simp[intOf];omega
   have cO:¬(i:Int)<ol:=Qo
   have bV:i=ol:=Qo
   have hs2:sv=E r b:=by rw[aQ,bV,zs,aB.o]
   have u:=hyd n;clear n aQ bV;cases sv
   .have cX:j≠id:=λe=>by have:=bK.o.2 e;rw[<-hs2]at this;cases this
    clear hs2;go_wp2;go_roundw
    .exact⟨j,cv,(j:Int)-1,Qo,rfl,Qg,rfl,λh=>bG.o.1 Qo,λh=>bG.o.2 Qo,u⟩
    simp[intOf]
   have bJ:=hyd (bK.o.1 hs2.symm);clear hs2;go_wp2;go_roundw
   .exact⟨j,j,(j:Int)-1,Qo,rfl,Qg,rfl,λ_=>bJ.o,λh=>by have:=bJ.o;omega,u⟩
   simp[intOf]
  have cC:kk=0:=Qo
  subst cC;have aO:¬(0:Int)<=ki:=Qo
  have bR:cv=id:=ac Qo;subst bR;clear bW;have aW:Hid (∀(v:Value) (l:List Int) (w':World),CK w rules E b v l w'->w'.cell? (a_ mb 1)=some (sL cb 256 256)/\w'.cell? (a_ cb b)=some (I6 0)/\w'.frozen? (a_ cb b)=false/\CK w rules E (b+1) v l (w'.setCell (a_ cb b) (I6 (cv:Int)))):=λv l w' h=>by
   have h1:=(h.m 1 _ rfl).1;let⟨h2,h3⟩:=h.c b _ (Xf _ au);rw[g_]at h2;have h4:=h.set au;unfold idxI at h4;rw[<-aU.o]at h4;rw[I.o,aD.o];exact⟨h1,h2,h3,h4⟩
  by_cases aa:cv=D
  .have q1:((cv:Int)==(D:Int))=true:=by simp[aa]
   have hx:=box_bel wr (.cells #[I6 (b:Int)] 3);have aJ:=n.f.below hx;have T:(wr.alloc (.cells #[I6 (b:Int)] 3)).cell? (a_ wr.heap.size 0)=some (I6 (b:Int)):=by rw[Zm];rfl
   have M:=ZJ n.z hx.size;have u:=hyd n;have F:=YH E b;rw[<-aj.o]at F;have bH:=hyd F;have e2:YS E b++[(b:Int)]=YS E (b+1):=by rw[Wn,dF (aT.o.1 aa)]
   have cj:=hyd e2;clear n hx F e2 aa ac av;go_wp2_with (first|(at_builtin;refine Bm.wpList_append_int Qr _ _ Qr (w.heap.size+3) (.slice fa D fc) (YS E b) Qr aJ (by rw[bH.o];omega) wr.heap.size (b:Int) Qr T M _ rfl ?_;rw[bH.o];intro g cap w5 bb a cA cD;refine Ya.out ?_));refine⟨?_⟩;rw[cj.o]at bb;have C5:=u.o.app bb a;let⟨y1,y2,y3,y4⟩:=aW.o _ _ w5 C5;have a2:=hyd y4;clear C5 y4 bb a cA cD aJ T M u
   (try simp only[psm])
   go_wp2;go_roundw
   .exact⟨b+1,Qo,Qg,a2⟩
   simp[intOf];omega
  have q1:((cv:Int)==(D:Int))=false:=Qp
  have b0:least E b≠b:=λe=>aa (aT.o.2 e)
  have e2:YS E (b+1)=YS E b:=by rw[Wn,dG b0,dv]
  rw[<-e2]at n;let⟨y1,y2,y3,y4⟩:=aW.o _ _ wr n;have a2:=hyd y4;clear n y4 e2;go_wp2;go_roundw
  .exact⟨b+1,Qo,Qg,a2⟩
  simp[intOf];omega
 have aO:¬(b:Int)<256:=Qo
 have cz:b=256:=Qo
 subst cz;let⟨W0,bP⟩:=nam wr;rw[<-bP]at n ⊢;clear bP wr;have ah:mb<W0.heap.size:=by have:=n.z;have:=I.o;omega
 let⟨fa,fc,aR,af⟩:=n.f.il;let⟨fs,bT⟩:=nam (reps E 256);have ak:=hyd bT;let⟨D,Q⟩:=nam (cnt E 256);have aj:=hyd Q;have aN:D<=256:=by rw[Q];exact cnt_le E 256
 rw[YH,<-Q]at aR af;have bf:=n.f.blk;subst aR;have M0:MR mb W0 (I6 rules) (sL cb 256 256) (sN) (sN) (SP vd O 0) (Xq rows fs 0) W0:=by
  have h1:=n.m;rw[<-I.o,<-aD.o]at h1;exact⟨h1,OwnL.nil _ _,OwnL.nil _ _,λk hk=>(by cases hk),Zk _ _,λ_ _ _=>rfl⟩
 have bB:=hyd M0;have bC:Hid (∀(vl vn:Value) (ll ln:List Int) (w':World),MR mb W0 (I6 rules) (sL cb 256 256) vl vn ll ln w'->Bl w w'/\TC w.heap.size XD w'/\TC cb (inl (idxI E) 256) w'/\IL fa (λi=>(YS E 256).getD i 0) D w'):=λvl vn ll ln w' h=>by
  have e1:=I.o;have e2:=aD.o;refine⟨n.b.trans (h.b.mono Qo),n.t.block (h.k _ Qo Qo),?_,af.heap (λk h1 ⟨o,e⟩=>h.k k h1 ?_)⟩
  .have h1:=n.c;rw[<-e2,Yn (g:=idxI E) (λc hc=>by rw[dF hc])]at h1;exact h1.block (h.k _ Qo Qo)
  have:=(bf k (by rw[e];rfl)).1;omega
 have bA:Hid (IL fa (λi=>(YS E 256).getD i 0) D W0/\(∀k o,fa=some (a_ k o)->k≠mb)):=⟨af,λk o e=>by have:=(bf k (by rw[e];rfl)).1;have:=I.o;omega⟩;have ag:=hyd2 n.b n.z;clear n af bf M0 bT Q;go_wp2
 go_loopw [16] (λx w'=>∃(i:Nat) (vl vn:Value),i<=ol/\x=I6 i/\MR mb W0 (I6 rules) (sL cb 256 256) vl vn (SP vd O i) (Xq rows fs i) w') (λx _=>ol-(intOf x).toNat)
 .exact⟨0,_,_,Qo,rfl,bB⟩
 clear bB;obtain⟨i,vl,vn,hi,rfl,Z⟩:=hrel;let⟨Bw,T0,T1,b7⟩:=bC.o _ _ _ _ wr Z;by_cases aP:i<ol
 .have cR:(i:Int)<ol:=Qo
  let⟨aK,aI,aL⟩:=HP.o W0 ag.o.1;obtain⟨σ,hσ⟩:∃σ,O[i]?=some σ:=⟨O[i]'(by have:=al.o;omega),Zd _⟩;have b5:=ch.o σ (dI hσ);have cS:(σ:Int)<N:=Qo
  have bu:O.getD i 0=σ:=by rw[Zf,hσ];rfl
  let⟨va,aA,a5,b8⟩:=aK.v;let⟨vb,vo,cu,a6⟩:=b8 σ b5;subst cu;let⟨ob,oo,ct,a4⟩:=aI i aP;subst ct;simp only[bu]at a4;let⟨y,hy⟩:=nam (vd σ);rw[<-hy]at a6;have aV:Hid (SP vd O (i+1)=SP vd O i++[y]):=by show _=_;rw[D8,bu,hy]
  have B:pb≠mb/\ob≠mb/\vb≠mb/\pb<W0.heap.size/\ob<W0.heap.size/\vb<W0.heap.size:=by
   let⟨cw,aJ,_⟩:=HP.o w (Zk _ _);let⟨cH,cd,aY,b9⟩:=cw.v;have g1:=Ze _ _ aY;have g0:(Value.slice cH N cd)=.slice (some (a_ vb vo)) N aA:=by
    have:=ag.o.1.cell (p:=(a_ pb 0)) g1;rw[a5,aY]at this;exact(Zh this).symm
   cases g0;let⟨b1,o1,e1,c1⟩:=b9 σ b5;cases e1;let⟨b2,o2,e2,c2⟩:=aJ i aP;cases e2;have g2:=Ze _ _ c1;have g3:=Ze _ _ c2;have:=ag.o.2;have:=I.o;simp only at g1 g2 g3;omega
  have aE:=hyd3 B.2.2.2.1 B.2.2.2.2.1 B.2.2.2.2.2;have H:Hid (∀(ce:Value) (ll':List Int) (w':World),MR mb W0 (I6 rules) (sL cb 256 256) ce vn ll' (Xq rows fs i) w'->(λw'=>w'.cell? (a_ pb 0)=some (.slice (some (a_ vb vo)) N aA)/\w'.cell? (a_ ob (oo+i))=some (I6 (σ:Int))/\w'.cell? (a_ vb (vo+σ))=some (I6 y)) w'):=λce ll' w' h=>⟨h.cell a5 B.1,h.cell a4 B.2.1,h.cell a6 B.2.2.1⟩
  let⟨s1,s2,s3⟩:=H.o _ _ wr Z;let⟨cc,aZ,U,_⟩:=Z.ol.il;rw[Qq]at U;have aF:=hyd U;have cm:=(Z.c 2 _ rfl).1;rw[U]at cm;have ax:(SP vd O i).length<=1000000:=by rw[Qq];omega
  have HZ:=hyd Z;clear Z Bw T0 T1 b7 aK aI aL hσ bu a5 b8 a6 a4 hy B U;go_wp2;have ao:(λw'=>w'.cell? (a_ pb 0)=some (.slice (some (a_ vb vo)) N aA)/\w'.cell? (a_ ob (oo+i))=some (I6 (σ:Int))/\w'.cell? (a_ vb (vo+σ))=some (I6 y)) wr.drew:=⟨s1,s2,s3⟩;refine fK (S:=λw'=>w'.cell? (a_ pb 0)=some (.slice (some (a_ vb vo)) N aA)/\w'.cell? (a_ ob (oo+i))=some (I6 (σ:Int))/\w'.cell? (a_ vb (vo+σ))=some (I6 y)) Qk ao (λhHeld=>?_);apply tQ 0
  apply tQ 2
  apply tQ 3
  apply tQ 4
  apply tQ 5
  apply tQ 6
  apply tQ 7
  apply tQ 8
  apply tQ 9
  apply tQ 10
  apply tQ 11
  let⟨W3,d⟩:=nam (wr.drew.alloc (.cells #[I6 y] 3));have q4:=cm;have Zd:=HZ.o.below (Zk wr.heap.size wr).drew ah;have x3:Below wr.drew.heap.size wr.drew W3:=by rw[d];exact box_bel wr.drew _
  have Z3:=Zd.below x3 ah;have bw:W3.cell? (a_ mb 2)=some (.slice cc i aZ):=by rw[<-aF.o];exact(Z3.c 2 _ rfl).1
  have W:=H.o _ _ W3 Z3;refine SL (fuel:=3) 1 12 (oi:=?Hp1) (ok:=?Hpk) (vi:=.slice cc i aZ) (vk:=.slice (some (a_ wr.drew.heap.size 0)) 1 1) (L:=#[true,true,true,true,true,true,true,true,true,true,true,true,true,false,false,false]) (A:=?HA) (w':=W3)
   ?Hh1 ?Hhk ?Hg1 ?Hgk ?Hr0 ?Hr1 ?Hr2 ?Hxi ?Hyi ?Hxk ?Hyk ?Hl1 ?Hl2 ?Hf1 ?Hf2 ?HhS ?HhSp ?Hfin
  case Hh1=>simp only[gel];rfl
  case Hhk=>simp only[gel];rfl
  case Hg1=>rfl
  case Hgk=>rfl
  case Hr0=>kernel_rfl
  case Hr1=>kernel_rfl
  case Hr2=>kernel_rfl
  case Hxi=>go_simp
  case Hyi=>clear d;simp only[psm];go_simp
  case Hxk=>rw[d];exact Xl _ rfl y rfl
  case Hyk=>rw[d];exact Xl _ rfl y rfl
  case Hl1=>kernel_rfl
  case Hl2=>kernel_rfl
  case Hf1=>simp only[psm];rfl
  case Hf2=>simp only[psm]
  case HhS=>exact hHeld
  case HhSp=>exact W
  have T:W3.cell? (a_ wr.drew.heap.size 0)=some (I6 y):=by rw[d,Zm];rfl
  have an:=Z3.ol;have M:=Z3.b.size;apply fL (rs:=[13]) Qk Qs;refine fM (o:=?oH13) ?hiH13 (λK hK=>?_) fN
  case hiH13=>simp only[gel];rfl
  rw[dF Qr];refine Um _ _ rfl W0.heap.size vl (SP vd O i) (by rw[aF.o];rfl) an ax wr.drew.heap.size y rfl T M _ rfl ?_;intro g6 C w6 V a G bm;rw[<-aV.o]at V;rw[d]at a G;let⟨p1,p2,Z6⟩:=Zd.putL ah V a G;have bc:(λw'=>w'.cell? (a_ pb 0)=some (.slice (some (a_ vb vo)) N aA)/\w'.cell? (a_ ob (oo+i))=some (I6 (σ:Int))/\w'.cell? (a_ vb (vo+σ))=some (I6 y)) w6:=by
   have ab:=Zd.ol.blk;let⟨y1,y2,y3⟩:=W;rw[d]at y1 y2 y3;let⟨z1,z2,z3⟩:=aE.o;refine⟨?_,?_,?_⟩
   .rw[a.cell_far _ (Ze _ _ y1) (λe=>by have:=(ab _ e.symm).1;simp only at this;omega)];exact y1
   .rw[a.cell_far _ (Ze _ _ y2) (λe=>by have:=(ab _ e.symm).1;simp only at this;omega)];exact y2
   rw[a.cell_far _ (Ze _ _ y3) (λe=>by have:=(ab _ e.symm).1;simp only at this;omega)];exact y3
  refine hK.out _ _ bc (λhHeld=>?_);clear hK K;let⟨W7,X⟩:=nam (w6.setCell (a_ mb 2) (sL g6 ((SP vd O i).length+1) C));rw[<-X]at Z6;have aC:=hyd X;have aM:=H.o _ _ W7 Z6;rw[aF.o]at p1
  (try simp only[psm])
  clear X V a G bm Z3 an M T Zd x3 q4 bw d cm HZ W ao s1 s2 s3;apply tQ 14
  apply fL (rs:=[15]) Qk Qs;refine fM (o:=?oH15) ?hiH15 (λK hK=>?_) fN
  case hiH15=>simp only[gel];rfl
  go_simp;rw[<-aC.o];refine hK.out _ _ aM (λhHeld=>?_);clear hK K;refine fO Qk ?_ _;go_wp2
  (try simp only[Act.put])
  rw[Qq]at Z6;have bE:Hid (MR mb W0 (I6 rules) (sL cb 256 256) (sL g6 (i+1) C) vn (SP vd O (i+1)) (Xq rows fs i++Ui rows fs i 0) W7):=by
   show MR _ _ _ _ _ _ _ _ _;rw[show Ui rows fs i 0=[] from rfl,dv];exact Z6
  clear Z6 aM hHeld p1 p2 aC H aE aF aV;go_wp2
  go_loopw [17] (λx w'=>∃(c:Nat) (vn:Value),c<=D/\x=I6 c/\MR mb W0 (I6 rules) (sL cb 256 256) (sL g6 (i+1) C) vn (SP vd O (i+1)) (Xq rows fs i++Ui rows fs i c) w') (λx _=>D-(intOf x).toNat)
  .exact⟨0,_,Qo,rfl,bE⟩
  clear bE;obtain⟨c,vn,hc,rfl,Z⟩:=hrel;have F:fs.length=D:=by rw[ak.o,aj.o];rfl
  by_cases be:c<D
  .have cN:(c:Int)<D:=Qo
   let⟨aK,aI,aL⟩:=HP.o W0 ag.o.1;obtain⟨κ,hκ⟩:∃κ,fs[c]?=some κ:=⟨fs[c]'Qo,Zd _⟩;have b4:κ<256:=by have h:=hκ;rw[ak.o]at h;exact(reps_mem h).1
   have cY:(κ:Int)<256:=Qo
   let⟨fg,fo,aH,cf⟩:=bA.o.1 c be;have bS:=bA.o.2 _ _ aH;subst aH;have aw:(YS E 256).getD c 0=(κ:Int):=by
    rw[YS,<-ak.o];simp[Zf,hκ]
   simp only[aw]at cf;let⟨rb,ro,xa,xc,a7,aG,ai⟩:=aL i aP;subst a7;let⟨xb,xo,a8,cx⟩:=ai κ b4;subst a8;let⟨x,hx⟩:=nam (rows i κ);rw[<-hx]at cx;have B:rb≠mb/\xb≠mb/\rb<W0.heap.size/\fg<W0.heap.size/\xb<W0.heap.size:=by
    let⟨_,_,cy⟩:=HP.o w (Zk _ _);let⟨cZ,c6,cI,cJ,bM,aX,ca⟩:=cy i aP;cases bM;have g1:=Ze _ _ aX;have g0:(Value.slice cI 256 cJ)=.slice (some (a_ xb xo)) 256 xc:=by
     have:=ag.o.1.cell (p:=(a_ rb (ro+i))) g1;rw[aG,aX]at this;exact(Zh this).symm
    cases g0;let⟨b1,o1,e1,c1⟩:=ca κ b4;cases e1;have g2:=Ze _ _ c1;have g3:=Ze _ _ cf;have:=ag.o.2;have:=I.o;simp only at g1 g2 g3;omega
   have aE:=hyd3 B.2.2.1 B.2.2.2.1 B.2.2.2.2;have H:Hid (∀(vn':Value) (ln':List Int) (w':World),MR mb W0 (I6 rules) (sL cb 256 256) (sL g6 (i+1) C) vn' (SP vd O (i+1)) ln' w'->(λw'=>w'.cell? (a_ rb (ro+i))=some (.slice (some (a_ xb xo)) 256 xc)/\w'.cell? (a_ fg (fo+c))=some (I6 (κ:Int))/\w'.cell? (a_ xb (xo+κ))=some (I6 x)) w'):=λvn' ln' w' h=>⟨h.cell aG B.1,h.cell cf bS,h.cell cx B.2.1⟩
   let⟨s1,s2,s3⟩:=H.o _ _ wr Z;have bL:Hid (Xq rows fs i++Ui rows fs i (c+1)=(Xq rows fs i++Ui rows fs i c)++[x]):=by
    show _=_;rw[Ll,Zs,Zf,hκ,hx];rfl
   let⟨LN,a9⟩:=nam (Xq rows fs i++Ui rows fs i c);rw[<-a9]at Z bL;have ax:LN.length<=1000000:=by
    rw[a9,Zl,V8,M9,F];have h1:i*D<=200*256:=dP Qo Qo;omega
   let⟨na,a0,J,_⟩:=Z.on.il;let⟨a1,bY⟩:=nam LN.length;rw[<-bY]at J;have a3:=hyd J;have cm:=(Z.c 3 _ rfl).1;rw[J]at cm;have HZ:=hyd Z;let⟨gL,bi⟩:=nam g6;let⟨cL,Y⟩:=nam C;rw[<-bi,<-Y]at HZ H;have bI:=hyd2 bi Y;clear Z aK aI aL hκ cf aw aG ai cx hx B a9 J bY F bi Y bS;go_wp2;have ao:(λw'=>w'.cell? (a_ rb (ro+i))=some (.slice (some (a_ xb xo)) 256 xc)/\w'.cell? (a_ fg (fo+c))=some (I6 (κ:Int))/\w'.cell? (a_ xb (xo+κ))=some (I6 x)) wr.drew:=⟨s1,s2,s3⟩;refine fK (S:=λw'=>w'.cell? (a_ rb (ro+i))=some (.slice (some (a_ xb xo)) 256 xc)/\w'.cell? (a_ fg (fo+c))=some (I6 (κ:Int))/\w'.cell? (a_ xb (xo+κ))=some (I6 x)) Qk ao (λhHeld=>?_);apply tQ 0
   apply tQ 2
   apply tQ 3
   apply tQ 4
   apply tQ 5
   apply tQ 6
   apply tQ 7
   apply tQ 8
   apply tQ 9
   apply tQ 10
   apply tQ 11
   let⟨W3,d⟩:=nam (wr.drew.alloc (.cells #[I6 x] 3));have q4:=cm;have Zd:=HZ.o.below (Zk wr.heap.size wr).drew ah;have x3:Below wr.drew.heap.size wr.drew W3:=by rw[d];exact box_bel wr.drew _
   have Z3:=Zd.below x3 ah;have bw:W3.cell? (a_ mb 3)=some (.slice na a1 a0):=by rw[<-a3.o];exact(Z3.c 3 _ rfl).1
   have W:=H.o _ _ W3 Z3;refine SL (fuel:=3) 1 12 (oi:=?Jp1) (ok:=?Jpk) (vi:=.slice na a1 a0) (vk:=.slice (some (a_ wr.drew.heap.size 0)) 1 1) (L:=#[true,true,true,true,true,true,true,true,true,true,true,true,true,false,false,false]) (A:=?JA) (w':=W3)
    ?Jh1 ?Jhk ?Jg1 ?Jgk ?Jr0 ?Jr1 ?Jr2 ?Jxi ?Jyi ?Jxk ?Jyk ?Jl1 ?Jl2 ?Jf1 ?Jf2 ?JhS ?JhSp ?Jfin
   case Jh1=>simp only[gel];rfl
   case Jhk=>simp only[gel];rfl
   case Jg1=>rfl
   case Jgk=>rfl
   case Jr0=>kernel_rfl
   case Jr1=>kernel_rfl
   case Jr2=>kernel_rfl
   case Jxi=>go_simp
   case Jyi=>clear d;simp only[psm];go_simp
   case Jxk=>rw[d];exact Xl _ rfl x rfl
   case Jyk=>rw[d];exact Xl _ rfl x rfl
   case Jl1=>kernel_rfl
   case Jl2=>kernel_rfl
   case Jf1=>simp only[psm];rfl
   case Jf2=>simp only[psm]
   case JhS=>exact hHeld
   case JhSp=>exact W
   have T:W3.cell? (a_ wr.drew.heap.size 0)=some (I6 x):=by rw[d,Zm];rfl
   have an:=Z3.on;have M:=Z3.b.size;apply fL (rs:=[13]) Qk Qs;refine fM (o:=?oJ13) ?hiJ13 (λK hK=>?_) fN
   case hiJ13=>simp only[gel];rfl
   rw[dF Qr];refine Um _ _ rfl W0.heap.size vn LN (by rw[a3.o];rfl) an ax wr.drew.heap.size x rfl T M _ rfl ?_;intro g6 C w6 V a G bm;rw[<-bL.o]at V;rw[d]at a G;let⟨p1,p2,Z6⟩:=Zd.putN ah V a G;have bc:(λw'=>w'.cell? (a_ rb (ro+i))=some (.slice (some (a_ xb xo)) 256 xc)/\w'.cell? (a_ fg (fo+c))=some (I6 (κ:Int))/\w'.cell? (a_ xb (xo+κ))=some (I6 x)) w6:=by
    have ab:=Zd.on.blk;let⟨y1,y2,y3⟩:=W;rw[d]at y1 y2 y3;let⟨z1,z2,z3⟩:=aE.o;refine⟨?_,?_,?_⟩
    .rw[a.cell_far _ (Ze _ _ y1) (λe=>by have:=(ab _ e.symm).1;simp only at this;omega)];exact y1
    .rw[a.cell_far _ (Ze _ _ y2) (λe=>by have:=(ab _ e.symm).1;simp only at this;omega)];exact y2
    rw[a.cell_far _ (Ze _ _ y3) (λe=>by have:=(ab _ e.symm).1;simp only at this;omega)];exact y3
   refine hK.out _ _ bc (λhHeld=>?_);clear hK K;let⟨W7,X⟩:=nam (w6.setCell (a_ mb 3) (sL g6 (LN.length+1) C));rw[<-X]at Z6;have aC:=hyd X;have aM:=H.o _ _ W7 Z6;rw[a3.o]at p1
   (try simp only[psm])
   clear X V a G bm Z3 an M T Zd x3 q4 bw d cm HZ W ao s1 s2 s3;apply tQ 14
   apply fL (rs:=[15]) Qk Qs;refine fM (o:=?oJ15) ?hiJ15 (λK hK=>?_) fN
   case hiJ15=>simp only[gel];rfl
   go_simp;rw[<-aC.o];refine hK.out _ _ aM (λhHeld=>?_);clear hK K;refine fO Qk ?_ _;go_wp2
   (try simp only[Act.put])
   rw[bI.o.1,bI.o.2]at Z6;go_roundw
   .exact⟨c+1,_,Qo,Qg,Z6⟩
   simp[intOf];omega
  have aO:¬(c:Int)<D:=Qo
  have aa:c=D:=Qo
  have Z2:MR mb W0 (I6 rules) (sL cb 256 256) (sL g6 (i+1) C) vn (SP vd O (i+1)) (Xq rows fs (i+1)) wr:=by
   rw[Sd,F,<-aa];exact Z
  clear Z F aa;go_wp2;go_roundw
  .exact⟨i+1,_,_,Qo,Qg,Z2⟩
  simp[intOf];omega
 have aO:¬(i:Int)<ol:=Qo
 have bU:i=ol:=Qo
 rw[bU]at Z;have rM:=Z.c.range;have tz:=T0.there;have e1:=I.o;have e2:=aD.o;let⟨la,lc,U,bv⟩:=Z.ol.il;rw[Qq]at U bv;let⟨na,nc,J,aS⟩:=Z.on.il;rw[V8]at J aS;have F:fs.length=cnt E 256:=by rw[ak.o];rfl
 rw[F]at J aS;have bn:=Z.ol.blk;have bq:=Z.on.blk;subst U;subst J;have am:=Y8 w.heap.size [I6 rules,sL cb 256 256,.slice la ol lc,.slice na (ol*cnt E 256) nc] 0 wr;have b3:=Zo wr w.heap.size 0 [I6 rules,sL cb 256 256,.slice la ol lc,.slice na (ol*cnt E 256) nc] tz;have ae:=ZF (P:=prog) (wr.setCells w.heap.size 0 [I6 rules,sL cb 256 256,.slice la ol lc,.slice na (ol*cnt E 256) nc]) w.heap.size 0 25 [I6 rules,sL cb 256 256,.slice la ol lc,.slice na (ol*cnt E 256) nc] _ b3 u_i rfl Yg;have BX:=Bw.grown am Bw.size (λq hq=>by cases hq;omega);have HR:Hid (xT rules O rows vd w (.returned (.agg #[I6 rules,sL cb 256 256,.slice la ol lc,.slice na (ol*cnt E 256) nc])) (wr.setCells w.heap.size 0 [I6 rules,sL cb 256 256,.slice la ol lc,.slice na (ol*cnt E 256) nc])):=by
  refine⟨BX,some (a_ cb 0),256,la,lc,na,nc,?_,⟨?_,?_,?_⟩,?_,?_,?_⟩
  .rw[<-al.o,<-aB.o]
  .intro k o e;cases e;omega
  .intro k o e;have:=(bn k (by rw[e];rfl)).1;omega
  .intro k o e;have:=(bq k (by rw[e];rfl)).1;omega
  .rw[<-al.o,<-aB.o];exact(Da T1).heap (λk hl ⟨o,e⟩=>am.block k hl (λh=>by cases e;have:=Zh h;omega))
  .rw[<-al.o];exact(bv.heap (λk hl ⟨o,e⟩=>am.block k hl (λh=>by have:=Zh h;have:=(bn k (by rw[e];rfl)).1;omega))).congr (λi hi=>Ac vd O hi)
  rw[<-al.o,<-aB.o,<-ak.o];exact aS.heap (λk hl ⟨o,e⟩=>am.block k hl (λh=>by have:=Zh h;have:=(bq k (by rw[e];rfl)).1;omega))
 let⟨nn,bZ⟩:=nam (ol*cnt E 256);rw[<-bZ]at ae HR rM;let⟨WX,bd⟩:=nam (wr.setCells w.heap.size 0 [I6 rules,sL cb 256 256,.slice la ol lc,.slice na nn nc]);rw[<-bd]at ae HR;have ci:=hyd bd;have Hfin:=hyd ae;clear Z Bw T0 T1 b7 am b3 ae BX bn bq bv aS bd e1 e2 bU F bZ;go_wp2_with (first|(with_reducible apply gld 25;refine Ya.out ?_));refine⟨?_⟩;apply Zb rfl 25 _ rfl mb 0 rfl [I6 rules,sL cb 256 256,.slice la ol lc,.slice na nn nc] _ rM u_i rfl Yg
 (try simp only[psm])
 apply Za rfl 25 _ _ rfl w.heap.size 0 #[I6 rules,sL cb 256 256,.slice la ol lc,.slice na nn nc] rfl rfl tz Yg (by simp[Value.oneCell']);rw[Zc,<-ci.o];go_wp2;exact Zr (v:=.agg #[I6 rules,sL cb 256 256,.slice la ol lc,.slice na nn nc]) (res_load1 results31 rfl Hfin.o) rfl HR.o
end
section
open Bm
variable {B n:Nat}{kf:Nat->Int}{E:Nat->N_}{nx:Nat->Nat->Int}{ad:Option Addr}{vc vl vn:Value}{w w':World}
def yN{x:Nat}(hx:x<n)(hl:least E x=x):Rp (reps E n) x=(cnt E x:Int):=by
 have h1:=reps_get E n x hx hl;have b:=dI h1;unfold Rp;rw[dF b];obtain⟨h2,h3⟩:=Zi.1 h1;have a:=(Gw E n).idxOf_getElem (cnt E x) h2;rw[h3]at a;rw[a]
variable {A:Aut}
def Ew(h:Pn A E nx){s b:Nat}(hs:s<cnt (alB A) A.N)(hb:b<256):QU A nx (reps (alB A) A.N) s b=YQ A (alB A) s (idx E b):=by
 obtain⟨r,i⟩:∃r,(reps (alB A) A.N)[s]?=some r:=⟨_,Zd hs⟩;have f:(reps (alB A) A.N).getD s 0=r:=by rw[Zf,i];rfl
 obtain⟨a,_,_⟩:=reps_mem i;unfold QU YQ gAt;rw[f];obtain⟨h1,h2⟩:=h.to (ZM a) hb;rw[dG (by omega)]at h2;have k:=h.g.rng r _ a (h.kk hb);by_cases e:A.to r (idx E b)=-1
 .rw[dF e];have c:Tu A.N nx r b=A.N:=by
   rw[e]at h2;unfold st at h2;by_cases e2:Tu A.N nx r b=A.N
   .exact e2
   rw[dG e2]at h2;omega
  rw[c,MO];unfold Rp;rw[dG];intro l;rw[SB]at l;omega
 rw[dG e];have c:Tu A.N nx r b≠A.N:=λe2=>by
  unfold st at h2;rw[dF e2]at h2;exact e h2.symm
 have d:Tu A.N nx r b<A.N:=by omega
 unfold st at h2;rw[dG c]at h2;rw[<-h2,ZE];unfold UD;rw[dG c];have j:=least_le (alB A) (Tu A.N nx r b);rw[yN (by omega) (least_idem (alB_eqv A A.N) d)];rfl
def Gc(h:Pn A E nx)(kf:Nat->Int)(hkf:∀b,b<256->kf b=idxI E b):
  (∀b,b<256->(Xb (Cl (YQ A (alB A)) (cnt (alB A) A.N)) kf 256).getD b 0=idxI (Cl (QU A nx (reps (alB A) A.N)) (cnt (alB A) A.N)) b) /\
  cnt (Cl (QU A nx (reps (alB A) A.N)) (cnt (alB A) A.N)) 256=cnt (Cl (YQ A (alB A)) (cnt (alB A) A.N)) A.K /\
  Xq (QU A nx (reps (alB A) A.N)) (reps (Cl (QU A nx (reps (alB A) A.N)) (cnt (alB A) A.N)) 256) (cnt (alB A) A.N)=Xq (YQ A (alB A)) (reps (Cl (YQ A (alB A)) (cnt (alB A) A.N)) A.K) (cnt (alB A) A.N):=by
 obtain⟨S,p⟩:=nam (cnt (alB A) A.N);obtain⟨O,o⟩:∃O,O=reps (alB A) A.N:=⟨_,rfl⟩;have c:∀s b,s<S->b<256->QU A nx O s b=YQ A (alB A) s (idx E b):=λs b hs f=>by rw[o];rw[p]at hs;exact Ew h hs f
 rw[<-p,<-o];have n:A.K=cnt E 256:=h.k;have P:Ow E (Cl (YQ A (alB A)) S) (Cl (QU A nx O) S) A.K:=by
  refine⟨h.e,n,Sp _ _ _,Sp _ _ _,λa b ha f=>?_⟩;rw[eA,Vg,Vg];constructor
  .intro g s hs;rw[<-c s a hs ha,<-c s b hs f];exact g s hs
  intro g s hs;rw[c s a hs ha,c s b hs f];exact g s hs
 have d:=P.reps_to 256 (Zg _);rw[<-n]at d;refine⟨λb f=>?_,?_,?_⟩
 .rw[Zf,Xb,fT,List.getElem?_range f];simp only[dX,fX];rw[hkf b f];unfold idxI;rw[ZE,P.ix f]
 .unfold cnt;rw[d,Zy]
 rw[d];unfold Xq;refine MM (λs hs=>?_);have l:=ZI.1 hs;unfold Ui;rw[Zy];refine ZO (λj t=>?_);have i:=ZI.1 t;obtain⟨κ,m⟩:∃κ,(reps (Cl (YQ A (alB A)) S) A.K)[j]?=some κ:=⟨_,Zd i⟩;obtain⟨k1,_,_⟩:=reps_mem m;obtain⟨r,u,v,_,_,w⟩:=P.rep k1;have q:(reps (Cl (YQ A (alB A)) S) A.K).getD j 0=κ:=by rw[Zf,m];rfl
 have e2:((reps (Cl (YQ A (alB A)) S) A.K).map λk=>(reps E 256).getD k 0).getD j 0=r:=by
  rw[Zf,fT,m];simp only[dX,fX];rw[Zf,u];rfl
 rw[q,e2,c s r l v,w]
open Go.RowKit
def Nl(v:Value)(e r a:Int)(w:World)(H:e≠0)(z:∀W,Bl w W->Cp 26 #[v] W λe' w'=>e'=.returned (.tuple #[I6 e,I6 r,I6 a])/\Bl W w'):
  Cp 10 #[v] w λen w'=>en=.returned (.tuple #[.agg XD.toArray,I6 e])/\Bl w w':=by
 have hz:=Wq;have p:(e != 0)=true:=by simp[H]
 let⟨W0,b⟩:=nam (w.alloc (.cells #[I6 0,sN,sN,sN] 25));have T0:TC w.heap.size XD W0:=by rw[b];exact TC.boxed w XD _
 have B0:Bl w W0:=by rw[b];exact box_bel _ _
 have j:W0.heap.size=w.heap.size+1:=by rw[b];simp
 have n:=hyd (z W0 B0);have g:=hyd b;have i:=hyd j;clear b j z H;go_enter func10,ntmps10;go_wp2_with fail;rw[<-g.o];apply n.o.mono;rintro en w2 ⟨rfl,k⟩;have o:=T0.block (k.block _ (by have:=i.o;omega));have f:Bl w w2:=B0.trans (k.mono (by have:=i.o;omega));let⟨q,m,c,_⟩:=WN (I6 0) (sN) (sN) (sN) o f;let⟨s,d⟩:=nam (w2.setCells w.heap.size 0 [I6 0,sN,sN,sN]);rw[<-d]at m c;have l:=hyd d;have h:=hyd c;clear d c o f k B0 T0 n g;go_wp2_with (first|(with_reducible apply gst 25;refine Ya.out ?_));refine⟨?_⟩;apply Za rfl 25 _ _ rfl w.heap.size 0 #[I6 0,sN,sN,sN] rfl rfl q Yg (by simp[Value.oneCell']);rw[Zc,<-l.o];go_wp2_with fail;apply Zr (v:=.tuple #[.agg #[I6 0,sN,sN,sN],I6 e]) (XG results10 rfl h.o rfl) rfl;exact⟨rfl,m⟩
def zo(es:Nat->Rx)(n:Nat)(h1:1<=n)(z:n<=8)(H:Y4 es n<=96)(J:∀k,k<n->(es k).Full){l:List (N_)}{t:List Int}(h:WU (Wh es n) (X6 es n) (UE es n) l.length 0 l t):
  Pn (XO l t (UE es n).length) (Kq (XV es n) (Y4 es n)) (λi b=>t.getD (i*(UE es n).length+idx (Kq (XV es n) (Y4 es n)) b) (-1)):=
 ⟨Vi _ _ _,rfl,λ_ _ _ _=>rfl,Ra (M7 es n h1 z H J) (M6 es n z H) (MX _ _) h,KV (Uu _ _).1 h⟩
def IX(es:Nat->Rx){k n:Nat}(z:k<n):(es k).sz<=Y4 es n:=by
 have:=X7 es (show k+1<=n from z);simp only[Y4]at this;omega
def Jd(b Y cap n:Nat)(f:Nat->ByteArray)(w:World)(h1:1<=n)(h8:n<=8)(hb:b<w.heap.size)(hm:∀i,i<n->(f i).size<=maxLen)(hr:RL b Y f n w)(Z:∀j,j<n->(Pg.gP (Y7 (f j)) (f j).size).1=0)(aa:¬96<X8 (λj=>Yh (f j)) n):
  Cp 10 #[.slice (some (a_ b Y)) n cap] w (Po (λj=>TZ (f j)) n w):=by
 obtain⟨es,d⟩:∃es:Nat->Rx,es=λj=>TZ (f j):=⟨_,rfl⟩
 have p:∀j,j<n->(Pg.ie (Y7 (f j)) (f j).size).ok=true:=λj y=>((XQ (f j)).2 (Z j y)).2.2
 have q:∀j,j<n->(f j).size<=40:=λj y=>((XQ (f j)).2 (Z j y)).2.1
 have c:=(Ok es (λj=>Yh (f j)) n (λi m=>by rw[d];exact Sg (f i) (p i m)) aa).2;have x:∀k,k<n->(es k).Full:=λk H=>by rw[d];exact KC (f k) (Z k H)
 have v:JD f n 0 0 0:=by
  let⟨e,r,a,I,A⟩:=zh f n;rcases I with ⟨i,m,_,h2,h3,_⟩|⟨_,rfl,rfl,z⟩
  .exfalso;have:=Z i m;rw[h2]at this;exact h3 this
  rw[dG aa]at z;rw[z]at A;exact A
 rw[<-d];refine Es b Y cap n es w h8 c (λW o=>?_) (λW o=>?_) (λl t h=>zo es n h1 h8 c x h) (λW pb vd nx bs N J K O ra P rows F E G s D u=>IR pb N vd nx bs J K O ra P rows n W F E G s D u h8)
 .apply(Pb b Y cap n f 0 0 0 W h1 h8 (ZH hb o.size) hm (hr.below hb o) v).mono;rintro e' w' ⟨rfl,C⟩;exact⟨⟨0,0,rfl⟩,C⟩
 refine Ix b Y cap n f es W h8 (ZH hb o.size) (hr.below hb o) (λi m w'=>?_) c;let⟨Q,g,L,_,_,M⟩:=Ua (f i) (p i m);have B:es i=TZ (f i):=by rw[d]
 rw[B];refine Iz M (f i) L.symm (q i m) ?_ w';rw[<-B];have:=IX es m;omega
end
section
open Go.RowKit
open Bm Bu
def AM{α:Type}(a b c:α)(i:Nat):α:=match i with|1=>a|2=>b|_=>c
def Sj{P:Nat->Prop}(h1:P 1)(h2:P 2)(h3:P 3):∀i,1<=i->i<=3->P i:=λi a b=>by
 have:i=1\/i=2\/i=3:=Qo
 rcases this with rfl|rfl|rfl<;>assumption
def yv(e:Int)(r:Nat)(L:Nat->List Int)(w:World)(en:Ending)(w':World):Prop:=
 Below w.heap.size w w'/\∃vv:Nat->Value,en=.returned (.tuple #[.agg (triC r vv),.int .i64 e])/\(∀i,1<=i->i<=3->OwnL w.heap.size (vv i) (L i) w')/\∀i j,1<=i->i<=3->1<=j->j<=3->i≠j->∀k,(vv i).ownBlock=some k->(vv j).ownBlock≠some k
def zC(e:Int)(r:Nat)(L:Nat->List Int)(w:World)(en:Ending)(w':World):Prop:=
 Below w.heap.size w w'/\∃(a:Nat->Option Addr) (c:Nat->Nat),en=.returned (.tuple #[.agg (triC r (λi=>.slice (a i) (L i).length (c i))),.int .i64 e])/\∀i,1<=i->i<=3->IL (a i) (λj=>(L i).getD j 0) (L i).length w'
def zy(ad:Option Addr)(n:Nat)(f:Nat->ByteArray)(w:World):Prop:=1<=n->∃b off,ad=some ⟨b,off,none⟩/\b<w.heap.size/\RL b off f n w
variable {B n:Nat}{kf:Nat->Int}{E:Nat->N_}{nx:Nat->Nat->Int}{ad:Option Addr}{vc vl vn:Value}{w w':World}
def zy.below{f:Nat->ByteArray}(h:zy ad n f w)(z:Bl w w'):zy ad n f w':=λh1=>by
 let⟨b,a,h2,h3,c⟩:=h h1;exact⟨b,a,h2,ZH h3 z.size,c.below h3 z⟩
variable {en:Ending}
def Qy{e:Int}(H:en=.returned (.tuple #[.agg XD.toArray,I6 e]))(z:Bl w w'):yv e 0 (λ_=>[]) w en w':=
 ⟨z,λ_=>sN,H,λ_ _ _=>OwnL.nil _ _,λ_ _ _ _ _ _ _ _ a=>by cases a⟩
def Qz{e:Int}(H:en=.returned (.tuple #[.agg XD.toArray,I6 e]))(z:Bl w w'):zC e 0 (λ_=>[]) w en w':=
 ⟨z,λ_=>none,λ_=>0,H,λ_ _ _ j a=>absurd a (Nat.not_lt_zero j)⟩
def AR(n:Nat)(f:Nat->ByteArray)(e:Int)(r:Nat)(L:Nat->List Int):Prop:=
 (∀i,(L i).length<=1000000)/\r<=8 /\
 (∀F,F=22\/F=34->∀ad cap w,zy ad n f w->Calls prog F #[.slice ad n cap] w (yv e r L w)) /\
 (∀ad cap w,zy ad n f w->Calls prog 10 #[.slice ad n cap] w (zC e r L w))
def FH{z:Nat->Int}(h:∀b,b<n->kf b=z b):Xb E kf n=Xb E z n:=by
 unfold Xb;exact ZO (λb a=>by rw[h b (ZI.1 a)])
noncomputable def Dq(es:Nat->Rx)(n:Nat)(A:Aut):Nat->List Int:=AM (Xb (Cl (YQ A (alB A)) (cnt (alB A) A.N)) (BS es n) 256) (WI A (alB A) (cnt (alB A) A.N)) (Xq (YQ A (alB A)) (reps (Cl (YQ A (alB A)) (cnt (alB A) A.N)) A.K) (cnt (alB A) A.N))
def Ag(es:Nat->Rx)(n:Nat)(A:Aut)(H:A.K<=256)(z:¬96<cnt (alB A) A.N)(i:Nat):(Dq es n A i).length<=1000000:=by
 unfold Dq AM;split
 .rw[TD];omega
 .rw[TP];omega
 rw[V8];have h1:(reps (Cl (YQ A (alB A)) (cnt (alB A) A.N)) A.K).length<=256:=ZJ (cnt_le _ _) H;have h2:cnt (alB A) A.N*(reps (Cl (YQ A (alB A)) (cnt (alB A) A.N)) A.K).length<=96*256:=dP Qo h1;omega
variable {A:Aut}{es:Nat->Rx}
def Ao(Z:Bl w w')(hk:∀b,b<256->kf b=BS es n b)(Y:OwnL w.heap.size vc (Xb (Cl (YQ A (alB A)) (cnt (alB A) A.N)) kf 256) w')(o2:OwnL w.heap.size vl (WI A (alB A) (cnt (alB A) A.N)) w')(o3:OwnL w.heap.size vn (Xq (YQ A (alB A)) (reps (Cl (YQ A (alB A)) (cnt (alB A) A.N)) A.K) (cnt (alB A) A.N)) w')
  (z:∀k,vc.ownBlock=some k->vl.ownBlock≠some k) (H:∀k,vc.ownBlock=some k->vn.ownBlock≠some k) (J:∀k,vl.ownBlock=some k->vn.ownBlock≠some k):yv 0 n (Dq es n A) w (.returned (.tuple #[.agg #[I6 n,vc,vl,vn],I6 0])) w':=by
 rw[FH hk]at Y;refine⟨Z,AM vc vl vn,rfl,Sj Y o2 o3,?_⟩;refine Sj (P:=λi=>∀j,1<=i->i<=3->1<=j->j<=3->i≠j->∀k,(AM vc vl vn i).ownBlock=some k->(AM vc vl vn j).ownBlock≠some k) ?_ ?_ ?_ |> λh i j d f a c=>h i d f j d f a c
 .intro j _ _ a c;exact Sj (P:=λj=>1≠j->∀k,vc.ownBlock=some k->(AM vc vl vn j).ownBlock≠some k) (λh=>absurd rfl h) (λ_=>z) (λ_=>H) j a c
 .intro j _ _ a c;exact Sj (P:=λj=>2≠j->∀k,vl.ownBlock=some k->(AM vc vl vn j).ownBlock≠some k) (λ_ k h e=>z k e h) (λh=>absurd rfl h) (λ_=>J) j a c
 intro j _ _ a c;exact Sj (P:=λj=>3≠j->∀k,vn.ownBlock=some k->(AM vc vl vn j).ownBlock≠some k) (λ_ k h e=>H k e h) (λ_ k h e=>J k e h) (λh=>absurd rfl h) j a c
def At{m:Value}(z:Bl w w')(J:Pn A (Kq (XV es n) (Y4 es n)) nx)(H:yo n (reps (alB A) A.N) (QU A nx (reps (alB A) A.N)) A.vd B (.returned m) w'):zC 0 n (Dq es n A) w (.returned (.tuple #[m,I6 0])) w':=by
 let⟨c,d,k,lc,l,nc,h1,_,e,f,a⟩:=H;cases h1;let⟨r,s,t⟩:=Gc J (BS es n) (λ_ _=>rfl);have o:(reps (alB A) A.N).length=cnt (alB A) A.N:=rfl;rw[o]at e f a ⊢;rw[s]at a ⊢;rw[t]at a;have j:(Dq es n A 3).length=cnt (alB A) A.N*cnt (Cl (YQ A (alB A)) (cnt (alB A) A.N)) A.K:=by show(Xq _ _ _).length=_;rw[V8];rfl
 have h:(Dq es n A 2).length=cnt (alB A) A.N:=TP _ _ _;have g:(Dq es n A 1).length=256:=TD _ _ _;refine⟨z,AM c k l,AM d lc nc,?_,?_⟩
 .show _=Ending.returned (.tuple #[.agg #[I6 n,.slice c (Dq es n A 1).length d,.slice k (Dq es n A 2).length lc,.slice l (Dq es n A 3).length nc],I6 0]);rw[g,h,j]
 refine Sj ?_ ?_ ?_
 .rw[g];exact e.congr (λb p=>(r b p).symm)
 .rw[h];refine f.congr (λi q=>?_);show _=(WI A (alB A) (cnt (alB A) A.N)).getD i 0;simp[WI,Zf,q]
 rw[j];exact a
def xx(n:Nat)(f:Nat->ByteArray)(r:Nat)(L:Nat->List Int):Prop:=r=n/\1<=n/\n<=8/\∃(es:Nat->Rx) (l:List (Nat->Bool)) (t:List Int) (A:Aut),(∀k,k<n->(es k).Full)/\Y4 es n<=96/\WU (Wh es n) (X6 es n) (UE es n) l.length 0 l t/\A=XO l t (UE es n).length/\¬96<cnt (alB A) A.N/\L=Dq es n A/\es=(λj=>TZ (f j))/\∀j,j<n->(Pg.gP (Y7 (f j)) (f j).size).1=0
def yz(n:Nat)(f:Nat->ByteArray)(hn:n<=maxLen)(hm:∀i,i<n->(f i).size<=maxLen):∃e r L,AR n f e r L/\(e=0->xx n f r L):=by
 by_cases c:1<=n/\n<=8
 .let⟨e,r,a,hP,T⟩:=zh f n;by_cases he:e=0
  .subst he;have q:(∀j,j<n->(Pg.gP (Y7 (f j)) (f j).size).1=0)/\¬96<X8 (λj=>Yh (f j)) n:=by
    rcases hP with ⟨i,_,_,_,h3,_⟩|⟨h1,_,_,h4⟩
    .exact absurd rfl h3
    refine⟨h1,λh=>?_⟩;rw[dF h]at h4;cases h4
   let⟨q,x⟩:=q;have Y:∀F,F=22\/F=34->∀ad cap w,zy ad n f w->Cp F #[.slice ad n cap] w (Mj (λj=>TZ (f j)) n w):=λF C ad cap w h=>by
    obtain⟨b,o,rfl,H,Q⟩:=h c.1;rcases C with rfl|rfl
    .exact LL b o cap n f w c.1 c.2 H hm Q q x
    exact Lj b o cap n f w c.1 c.2 H hm Q q x
   have Z:∀ad cap w,zy ad n f w->Cp 10 #[.slice ad n cap] w (Po (λj=>TZ (f j)) n w):=λad cap w h=>by
    obtain⟨b,o,rfl,H,Q⟩:=h c.1;exact Jd b o cap n f w c.1 c.2 H hm Q q x
   have af:∀j,j<n->(Pg.ie (Y7 (f j)) (f j).size).ok=true:=λj hj=>((XQ (f j)).2 (q j hj)).2.2
   obtain⟨es,I⟩:∃es:Nat->Rx,es=λj=>TZ (f j):=⟨_,rfl⟩
   have P:=(Ok es (λj=>Yh (f j)) n (λi hi=>by rw[I];exact Sg (f i) (af i hi)) x).2;have ab:∀k,k<n->(es k).Full:=λk hk=>by rw[I];exact KC (f k) (q k hk)
   rw[<-I]at Y Z;have U:=Uu (XV es n) (Y4 es n);by_cases u:Ov (Wh es n) (X6 es n) (UE es n)
   .refine⟨8,0,λ_=>[],⟨λ_=>Qs,Qo,λF C ad cap w h=>(Y F C ad cap w h).mono ?_,λad cap w h=>(Z ad cap w h).mono ?_⟩,λh=>by cases h⟩
    .rintro en w' ⟨z,v⟩;rcases v with ⟨rfl,_⟩|⟨l,t,A,_,G,_⟩
     .exact Qy rfl z
     let⟨s,k,J,M,f2,b2,x1,x2,x3,x4⟩:=u;exact(WU.not_both U.1 G x1 x2 x3 x4).elim
    rintro en w' ⟨z,v⟩;rcases v with ⟨rfl,_⟩|⟨l,t,A,nx,O,_,G,_⟩
    .exact Qz rfl z
    let⟨s,k,J,M,f2,b2,x1,x2,x3,x4⟩:=u;exact(WU.not_both U.1 G x1 x2 x3 x4).elim
   by_cases D:∃l t,WU (Wh es n) (X6 es n) (UE es n) l.length 0 l t
   .let⟨l,t,G⟩:=D;let⟨A,S⟩:=nam (XO l t (UE es n).length);have aa:=zo es n c.1 c.2 P ab G;rw[<-S]at aa;have ae:A.K<=256:=by rw[S];exact U.2
    by_cases y:96<cnt (alB A) A.N
    .refine⟨9,0,λ_=>[],⟨λ_=>Qs,Qo,λF C ad cap w h=>(Y F C ad cap w h).mono ?_,λad cap w h=>(Z ad cap w h).mono ?_⟩,λh=>by cases h⟩
     .rintro en w' ⟨z,v⟩;rcases v with ⟨_,E⟩|⟨J,M,X,d,g,p⟩
      .exact absurd E u
      obtain⟨rfl,rfl⟩:=WU.one_end U.1 G g;rw[<-S]at d;subst d;rcases p with ⟨_,rfl⟩|⟨p,_⟩
      .exact Qy rfl z
      exact absurd y p
     rintro en w' ⟨z,v⟩;rcases v with ⟨_,E⟩|⟨J,M,X,nx,O,d,g,_,hO,p⟩
     .exact absurd E u
     obtain⟨rfl,rfl⟩:=WU.one_end U.1 G g;rw[<-S]at d;subst d;rcases p with ⟨_,rfl⟩|⟨p,_⟩
     .exact Qz rfl z
     exact absurd y (by rw[hO]at p;exact p)
    refine⟨0,n,Dq es n A,⟨Ag es n A ae y,c.2,λF C ad cap w h=>(Y F C ad cap w h).mono ?_,λad cap w h=>(Z ad cap w h).mono ?_⟩,λ_=>⟨rfl,c.1,c.2,es,l,t,A,ab,P,G,S,y,rfl,I,q⟩⟩
    .rintro en w' ⟨z,v⟩;rcases v with ⟨_,E⟩|⟨J,M,X,d,g,p⟩
     .exact absurd E u
     obtain⟨rfl,rfl⟩:=WU.one_end U.1 G g;rw[<-S]at d;subst d;rcases p with ⟨p,_⟩|⟨_,vc,vl,vn,kf,rfl,hk,o1,o2,o3,n1,n2,n3⟩
     .exact absurd p y
     exact Ao z hk o1 o2 o3 n1 n2 n3
    rintro en w' ⟨z,v⟩;rcases v with ⟨_,E⟩|⟨J,M,X,nx,O,d,g,ac,hO,p⟩
    .exact absurd E u
    obtain⟨rfl,rfl⟩:=WU.one_end U.1 G g;rw[<-S]at d;subst d;subst hO;rcases p with ⟨p,_⟩|⟨_,m,B,rfl,hM⟩
    .exact absurd p y
    exact At z (by rw[ac];exact aa) hM
   refine⟨8,0,λ_=>[],⟨λ_=>Qs,Qo,λF C ad cap w h=>(Y F C ad cap w h).mono ?_,λad cap w h=>(Z ad cap w h).mono ?_⟩,λh=>by cases h⟩
   .rintro en w' ⟨z,v⟩;rcases v with ⟨_,E⟩|⟨J,M,X,d,g,p⟩
    .exact absurd E u
    exact absurd ⟨J,M,g⟩ D
   rintro en w' ⟨z,v⟩;rcases v with ⟨_,E⟩|⟨J,M,X,nx,O,d,g,ac,hO,p⟩
   .exact absurd E u
   exact absurd ⟨J,M,g⟩ D
  refine⟨e,0,λ_=>[],⟨λ_=>Qs,Qo,λF C ad cap w h=>?_,λad cap w h=>?_⟩,λh=>absurd h he⟩
  .obtain⟨b,o,rfl,H,Q⟩:=h c.1;have T:∀W,Bl w W->_:=λW V=>O9 b o cap n f e r a W c.1 c.2 (ZH H V.size) hm (Q.below H V) hP
   have h3:Cp F #[.slice (some (a_ b o)) n cap] w λen w'=>en=.returned (.tuple #[.agg XD.toArray,I6 e])/\Bl w w':=by
    rcases C with rfl|rfl
    .exact SC _ e r a w he T
    exact Rl _ e r a w he T
   apply h3.mono;rintro en w' ⟨h1,h2⟩;exact Qy h1 h2
  obtain⟨b,o,rfl,H,Q⟩:=h c.1;apply(Nl _ e r a w he (λW V=>Pb b o cap n f e r a W c.1 c.2 (ZH H V.size) hm (Q.below H V) T)).mono;rintro en w' ⟨h1,h2⟩;exact Qz h1 h2
 have R:n=0\/8<n:=Qo
 refine⟨1,0,λ_=>[],⟨λ_=>Qs,Qo,λF C ad cap w h=>?_,λad cap w h=>?_⟩,λh=>by cases h⟩
 .have T:∀W,Bl w W->Cp 124 #[.slice ad n cap] W λe' w'=>e'=.returned (.tuple #[I6 1,I6 0,I6 0])/\Bl W w':=λW V=>(Ke ad n cap W hn R).mono (by rintro e' w' ⟨rfl,rfl⟩;exact⟨rfl,Zk _ _⟩)
  have h3:Cp F #[.slice ad n cap] w λen w'=>en=.returned (.tuple #[.agg XD.toArray,I6 1])/\Bl w w':=by
   rcases C with rfl|rfl
   .exact SC _ 1 0 0 w Qo T
   exact Rl _ 1 0 0 w Qo T
  apply h3.mono;rintro en w' ⟨h1,h2⟩;exact Qy h1 h2
 refine(Nl _ 1 0 0 w Qo (λW V=>(Ku ad n cap W hn R).mono ?_)).mono ?_
 .rintro e' w' ⟨rfl,rfl⟩;exact⟨rfl,Zk _ _⟩
 rintro en w' ⟨h1,h2⟩;exact Qz h1 h2
def IU(r:Nat)(L:Nat->List Int):Mc:=⟨r,λi=>(L 1).getD i 0,(L 1).length,λi=>(L 2).getD i 0,(L 2).length,λi=>(L 3).getD i 0,(L 3).length⟩
def OQ(e:Int)(r:Nat)(L:Nat->List Int):ByteArray:=if e=0 then ⟨(XR (Xw (IU r L))).toArray⟩ else ⟨#[]⟩
def xQ(e:Int)(r:Nat)(L:Nat->List Int)(w:World)(en:Ending)(w':World):Prop:=Below w.heap.size w w'/\en=.returned (.tuple #[.string (OQ e r L),.int .i64 e])
def Ah{r:Nat}{L:Nat->List Int}(h:∀i,(L i).length<=1000000):AP (IU r L):=⟨by show(L 1).length+3<=_;have:=h 1;omega,by show(L 2).length+3<=_;have:=h 2;omega,by show(L 3).length+3<=_;have:=h 3;omega⟩
def J4(ad:Option Addr)(n cap:Nat)(f:Nat->ByteArray)(e:Int)(r:Nat)(L:Nat->List Int)(w:World)(hO:AR n f e r L)(hG:e=0->WH (IU r L))(aa:zy ad n f w):
  Cp 13 #[.slice ad n cap] w (xQ e r L w):=by
 have hz:=Wq;have Z:=Vy;have E:=hyd (hO.2.2.1 _ (Or.inr rfl) ad cap w aa);have G:=hyd hO.1;clear hO aa;go_enter func13,ntmps13;go_wp2_with fail;apply E.o.mono;rintro en w1 ⟨x,vv,rfl,v,_⟩;let⟨U,c1,J,P⟩:=(v 1 Qo Qo).il;let⟨V,c2,e2,Q⟩:=(v 2 Qo Qo).il;let⟨W,c3,K,R⟩:=(v 3 Qo Qo).il;let⟨M,l⟩:=nam (IU r L);obtain⟨A,z⟩:∃A:NZ,A=⟨U,c1,V,c2,W,c3⟩:=⟨_,rfl⟩;have N:triC r vv=A.cells M:=by unfold triC;rw[J,e2,K,z,l];rfl
 have k:G0 M A w1:=by rw[z,l];exact⟨P,Q,R⟩
 have m:AP M:=by rw[l];exact Ah G.o
 rw[N];let⟨H,a⟩:=nam (w1.alloc (.cells (A.cells M) 25));have y:Bl w1 H:=by rw[a];exact X5 _ _
 have j:SU w1.heap.size M A H:=by rw[a];exact SU.boxed M A w1 _
 have g:=x.trans (y.mono x.size);have c:=hyd g;by_cases o:e=0
 .have HS:Hid (WH M):=by show WH M;rw[l];exact hG o
  have i:Hid (OQ e r L=⟨(XR (Xw M)).toArray⟩):=by show _=_;unfold OQ;rw[dF o,l]
  have s:=hyd (Nf w1.heap.size M A H m j (k.below y));subst o;unfold NZ.cells at a ⊢;clear N k m l z j y g J e2 K P Q R v hG x E G;go_wp2_with fail;rw[<-a];clear a;apply s.o.mono;rintro en w3 ⟨C,h⟩;rcases h with ⟨O,_⟩|⟨_,g1,g2,vb,vd,vc,vn,rfl,T⟩
  .exact absurd HS O
  let⟨B,t,u⟩:=T.tb;rw[t];let⟨I,b⟩:=nam (w3.alloc (.cells (B.cells (Xw M)) 83));have D:Bl w3 I:=by rw[b];exact X5 _ _
  have d:VY w3.heap.size (Xw M) B I:=by rw[b];exact VY.boxed _ _ _ _
  have q:=hyd (SS w3.heap.size (Xw M) B I (Cv HS) d (u.below D));have p:=hyd (c.o.trans ((C.trans (D.mono C.size)).mono c.o.size));unfold QZ.cells at b ⊢;clear d D C T t u s c;go_wp2_with fail;rw[<-b];clear b;apply q.o.mono;rintro en w5 ⟨S,h⟩;rcases h with ⟨_,rfl⟩|⟨X,_⟩
  .have F:=hyd (p.o.trans (S.mono p.o.size));clear S q;go_wp2_with fail;go_ret2;exact⟨F.o,by rw[i.o];rfl⟩
  exact absurd (Sf HS) X
 have hq:(e==0)=false:=by simpa using o
 have Y:(e != 0)=true:=by simp[o]
 have i:Hid (OQ e r L=⟨#[]⟩):=by show _=_;unfold OQ;rw[dG o]
 unfold NZ.cells at a ⊢;clear N k m l z j y g J e2 K P Q R v hG x E G;go_wp2_with fail;rw[<-a];go_ret2;exact⟨c.o,by rw[i.o];rfl⟩
def E2{r:Nat}{f:Nat->ByteArray}{L:Nat->List Int}(h:xx n f r L):WH (IU r L)/\1<=n/\n<=8/\(∀i,i<n->∀w',Cp 39 #[.string (f i)] w' (QX w' (TZ (f i)))) /\
  ∀(x:ByteArray) (i:Nat) (rule:Int) (m:Nat),i<x.size->JB (λr=>(TZ (f r)).Lq) n (pre x i (x.size-i)) rule m->Ud (XM (WE (IU r L))) x i=(rule,if m=0 then 1 else (m:Int)):=by
 obtain⟨rfl,h1,d,es,l,t,A,j,c,q,p,e,rfl,a,o⟩:=h;have s:=yJ (kf:=BS es r) h1 d c j q p e (λ_ _=>rfl);have S:=s.snd;refine⟨S,h1,d,λi k w'=>?_,λx i rule m k v=>?_⟩
 .have b:=((XQ (f i)).2 (o i k)).2;let⟨B,g,y,_,_,z⟩:=Ua (f i) b.2;refine Iz z (f i) y.symm b.1 ?_ w';have:=IX es k;rw[a]at this c;simp only at this;omega
 apply Db (V:=Di es r) (Ls:=λr=>(es r).Lq) (N:=r) S (Dj c d) (λu w=>Ai c q p (λ_ _=>rfl) s u w) x Qo;rw[a];exact v
def GY(ad:Option Addr)(n cap:Nat)(f:Nat->ByteArray)(x:ByteArray)(w:World)(hn:n+3<=17592186044416)(hm:∀i,i<n->(f i).size<=maxLen)(ag:zy ad n f w)(hx:x.size<=140737488355328):
  Cp 5 #[.slice ad n cap,.string x] w λe w'=>e=.returned (.bool true)/\Bl w w':=by
 let⟨e,r,L,hO,hG⟩:=yz n f (by unfold maxLen;omega) hm;have y:=hyd (J4 ad n cap f e r L w hO (λh=>(E2 (hG h)).1) ag);have D:Hid (∀w',Bl w w'->Cp 10 #[.slice ad n cap] w' (zC e r L w')):=λw' h=>hO.2.2.2 ad cap w' (ag.below h)
 have A:=hyd hG;have J:=hyd ag;have ae:(e != e)=false:=Qs
 have ac:(e==e)=true:=Qs
 let⟨F,hF⟩:=nam (OQ e r L);have V:=hyd hF;clear hO hG ag hm hF;go_enter func5,ntmps5;go_wp2_with fail;apply y.o.mono;rintro en w1 ⟨U,rfl⟩;rw[<-V.o];have v:=hyd (D.o w1 U);clear y D;go_wp2_with fail;apply v.o.mono;rintro en w2 ⟨W,a,c,rfl,_⟩;let⟨W2,k⟩:=nam (w2.alloc (.cells (triC r λi=>.slice (a i) (L i).length (c i)) 25));have x2:Bl w2 W2:=by rw[k];exact box_bel _ _
 have o:=hyd (U.trans ((W.trans (x2.mono W.size)).mono U.size));clear v U W x2;unfold triC at k ⊢;by_cases R:e=0
 .let⟨S,n1,n8,N,P⟩:=E2 (A.o R);subst R;have g:Hid (F=WE (IU r L)):=by show _=_;rw[V.o];unfold OQ;rw[dF rfl];rfl
  have p:=hyd (M2 S);have B:=hyd (Cd F W2 (by rw[g.o];have:=p.o.good.small;omega));have z:=hyd N;have H:=hyd P;clear S N P A V;go_wp2_with fail;rw[<-k];clear k;apply B.o.mono;rintro en w3 ⟨B3,h⟩;rcases h with ⟨c',Q,_⟩|⟨_,b,A2,rfl,_,hT,O⟩
  .rw[g.o]at Q;exact absurd Q p.o.good.not
  have q:=hyd (o.o.trans (B3.mono o.o.size));let⟨T,s⟩:=nam (XM F);have HT:Hid (T=XM (WE (IU r L))):=by show T=_;rw[s,g.o]
  have E:Hid (Cp 15 #[pT b,.string x] w3 (Mp T x w3)):=by
   show Calls _ _ _ _ _;rw[s];exact EQ b _ A2 x w3 (by rw[g.o];exact p.o.snd) hT O.in_ hx
  clear B hT O B3 o s p g;go_wp2_with fail;apply E.o.mono;rintro en w4 ⟨v4,rfl,K,B4⟩;have d:=hyd (q.o.trans (B4.mono q.o.size));clear E B4 q;by_cases l:2000<x.size
  .have t:(2000:Int)<(x.size:Int):=Qo
   have M:QH x=2:=by rw[QH,dF l]
   have e2:SQ T x=[]:=by rw[SQ,dF l]
   rw[e2]at K;obtain⟨ta,tc,rfl,_⟩:=K.kl;rw[M];clear K M e2;simp only[eO];go_wp2_with fail;go_ret;exact⟨by first|rfl|simp,d⟩
  have t:¬(2000:Int)<(x.size:Int):=Qo
  have M:QH x=0:=by rw[QH,dG l]
  rw[M];let⟨pb,ab,aa,hb,hS⟩:=(J.o.below d.o) n1;subst aa;have I:=hyd (GM pb ab cap n f (λj=>TZ (f j)) x T w4 n8 hb hS z.o Qo (λi rule m h1 h2=>by rw[HT.o];exact H.o x i rule m h1 h2));have C:=hyd K;clear z H hS hb K M;go_wp2_with fail;apply I.o.mono;rintro en w5 ⟨v5,b5,rfl,O5,X⟩;have u:=hyd (d.o.trans (X.mono d.o.size));have hl:(SQ T x).length<=100000:=by
   have:=Dc T x;omega
  have G:=hyd (Nz _ _ v4 v5 (SQ T x) w5 hl (C.o.below X) O5);clear I O5 X d C hl;go_wp2_with fail;apply G.o.mono;rintro en w6 ⟨rfl,B6⟩;have Y:=hyd (u.o.trans (B6.mono u.o.size));clear G B6;go_wp2_with fail;go_ret;exact⟨by first|rfl|simp,Y⟩
 have hq:(e==0)=false:=by simpa using R
 have af:(e != 0)=true:=by simp[R]
 have Z:F=⟨#[]⟩:=by rw[V.o];unfold OQ;rw[dG R]
 subst Z;go_wp2_with fail;rw[<-k];go_ret;exact⟨by first|rfl|simp,o⟩
end
