import Derived.Deep.MidRow
import Derived.Test.YtoaaklhpmhjhkaaGreatC03
set_option maxRecDepth 100000
set_option maxHeartbeats 4000000
set_option linter.all false
namespace Go.Proofs.YtoaaklhpmhjhkaaGreat
section
open Go.RowKit
open Bm
def bl (f:Nat->Bool) (n:Nat):List Value:=(List.range n).map λi=>.bool (f i)
theorem Y9 (f:N_) (n:Nat):(bl f n).length=n:=by simp[bl]
theorem YO (f:N_) {n i:Nat} (h:i<n):(bl f n)[i]?=some (.bool (f i)):=by simp[bl,h]
variable {a:Act}{ops:Array Oper}{tmps:Array Value}{Q:Exit->Act->World->Prop}{fn:Func}{lf lf' lo':List Int}{rest:List Oper}{B K P b base base' cap g k m n t:Nat}{f:N_}{E hs:Nat->N_}{rw:Nat->Nat->Int}{ob:Obj}{o:Oper}{ad ha:Option Addr}{row:Option Nat}{v vf vl vo:Value}{W W' W1 w w' w5:World}
theorem YU {g:N_} (h:∀i,i<n->f i=g i):bl f n=bl g n:=by
 unfold bl;exact ZO (λi a=>by rw[h i (by simpa using a)])
theorem Uz (f:N_) (n i:Nat) (x:Bool):(bl f n).set i (.bool x)=bl (λj=>if j=i then x else f j) n:=by
 refine List.ext_getElem? (λj=>?_);rcases ZD j n with a|a
 ·by_cases e:j=i
  ·subst e;rw[List.getElem?_set_self (by rw[Y9];exact a),YO _ a];simp
  rw[List.getElem?_set_ne (λh=>e h.symm),YO _ a,YO _ a];simp[e]
 rw[ZB (by rw[List.length_set,Y9];exact a),ZB (by rw[Y9];exact a)]
theorem YL (f:N_) (n:Nat):(bl f n).toArray.all (·.oneCell')=true:=by simp[bl,Value.oneCell']
theorem Bm.TC.ltB (h:TC t (bl f (n+1)) w):t<w.heap.size:=Ze w _ (h 0 _ (YO f (by omega))).1
theorem Jy (w:World):(zeroValue 132).run Tryz.prog w=.ok (.agg (bl (λ_=>false) 96).toArray) w:=by kernel_rfl
theorem Y1:(Tryz.prog.info? 132).map (·.size)=some 96:=by kernel_rfl
theorem Xw (f g:N_) (w:World):
  Cp 174 #[.agg (bl f 96).toArray,.agg (bl g 96).toArray] w λe w'=>e=.returned (.agg (bl (λi=>f i || g i) 96).toArray)/\Bl w w':=by
 have hz:=Jy;obtain⟨W,I⟩:=nam (((w.alloc (.cells (bl f 96).toArray 132)).alloc (.cells (bl g 96).toArray 132)).alloc (.cells (bl (λ_=>false) 96).toArray 132));have h1:(w.alloc (.cells (bl f 96).toArray 132)).heap.size=w.heap.size+1:=by simp
 have h2:((w.alloc (.cells (bl f 96).toArray 132)).alloc (.cells (bl g 96).toArray 132)).heap.size=w.heap.size+2:=by simp
 have l:=TC.boxed w (bl f 96) 132;have n:=TC.boxed (w.alloc (.cells (bl f 96).toArray 132)) (bl g 96) 132;have o:=TC.boxed ((w.alloc (.cells (bl f 96).toArray 132)).alloc (.cells (bl g 96).toArray 132)) (bl (λ_=>false) 96) 132;rw[h1]at n;rw[h2,<-I]at o;have x1:=box_bel w (.cells (bl f 96).toArray 132);have x2:=box_bel (w.alloc (.cells (bl f 96).toArray 132)) (.cells (bl g 96).toArray 132);have x3:=box_bel ((w.alloc (.cells (bl f 96).toArray 132)).alloc (.cells (bl g 96).toArray 132)) (.cells (bl (λ_=>false) 96).toArray 132);rw[<-I]at x3;have z:TC w.heap.size (bl f 96) W:=(l.block (x2.block _ l.ltB)).block (x3.block _ (by omega));have A:TC (w.heap.size+1) (bl g 96) W:=n.block (x3.block _ (by omega));have B:Bl w W:=(x1.trans (x2.mono (by omega))).trans (x3.mono (by omega));clear l n x1 x2 x3 h1 h2;go_enter Tryz.func174,Tryz.ntmps174;go_wp2;rw[<-I];clear I
 go_loopw [5] (λx w'=>∃p:Nat,p<=96/\x=I6 p/\TC w.heap.size (bl (λi=>if i<p then f i || g i else f i) 96) w'/\TC (w.heap.size+1) (bl g 96) w'/\TC (w.heap.size+2) (bl (λ_=>false) 96) w'/\Bl w w') (λx _=>96-(intOf x).toNat)
 ·exact⟨0,by omega,rfl,by simpa using z,A,o,B⟩
 clear z A o B;obtain⟨p,hp,rfl,l,n,o,H⟩:=hrel;by_cases E:p<96
 ·have R:(p:Int)<96:=by omega
  obtain⟨c1,V⟩:=l p _ (YO _ E);have c2:=(n p _ (YO _ E)).1;simp only[Nat.lt_irrefl,if_false]at c1;have s:=l.set p (by rw[Y9];omega) (.bool (f p || g p));rw[Uz]at s;have a:TC w.heap.size (bl (λi=>if i<p+1 then f i || g i else f i) 96) (wr.setCell (a_ w.heap.size p) (.bool (f p || g p))):=by
   rw[YU (g:=λj=>if j=p then f p || g p else if j<p then f j || g j else f j) (λi _=>?_)]
   ·exact s
   by_cases e:i=p
   ·subst e;simp
   by_cases O:i<p
   ·simp[e,O,show i<p+1 by omega]
   simp[e,O,show ¬i<p+1 by omega]
  have M:∀k,k≠w.heap.size->(wr.setCell (a_ w.heap.size p) (.bool (f p || g p))).heap[k]?=wr.heap[k]?:=λk Y=>Zq wr (a_ w.heap.size p) _ k (λe=>Y e)
  have b:=n.block (M (w.heap.size+1) (by omega));have c:=o.block (M (w.heap.size+2) (by omega));have d:=H.setCell (p:=(a_ w.heap.size p)) (Zg _) (.bool (f p || g p));obtain⟨x,S⟩:=nam (f p);obtain⟨y,T⟩:=nam (g p);rw[<-S]at c1 a b c d;rw[<-T]at c2 a b c d;clear l n o H s M S T;cases x
  ·simp only[Bool.false_or]at a b c d;go_wp2;go_roundw
   ·exact⟨p+1,by omega,by go_num,a,b,c,d⟩
   simp[intOf];omega
  simp only[Bool.true_or]at a b c d;go_wp2;go_roundw
  ·exact⟨p+1,by omega,by go_num,a,b,c,d⟩
  simp[intOf];omega
 have X:¬(p:Int)<96:=by omega
 obtain⟨L,C⟩:=nam (bl (λi=>f i || g i) 96);have D:bl (λi=>if i<p then f i || g i else f i) 96=L:=by rw[C];exact YU (λi hi=>by simp[show i<p by omega])
 have m:L.length=96:=by rw[C];exact Y9 _ _
 rw[D]at l;have N:=l.range;have G:wr.there (w.heap.size+2) 0 96:=by have:=o.there;rw[Y9]at this;exact this
 have Q:=Y8 (w.heap.size+2) L 0 wr;have F:=Zo wr (w.heap.size+2) 0 L (by rw[m];exact G);have h:=ZF (P:=Tryz.prog) (wr.setCells (w.heap.size+2) 0 L) (w.heap.size+2) 0 132 L _ F u_a rfl (by rw[m];exact Y1);obtain⟨W9,t⟩:=nam (wr.setCells (w.heap.size+2) 0 L);rw[<-t]at Q h;have K:=hyd t;have u:=hyd h;have J:Hid (L.toArray.all (·.oneCell')=true):=by show _=true;rw[C];exact YL _ _
 have r:=hyd m;have U:=hyd C;clear t F h C m l n o D;go_wp2_with (first|(refine Zb rfl 132 _ rfl w.heap.size 0 rfl L _ N u_a rfl (by rw[r.out];exact Y1) ?_)|(refine Za rfl 132 _ _ rfl (w.heap.size+2) 0 L.toArray rfl rfl (by simpa[r.out]using G) (by simpa[r.out]using Y1) J.out ?_;rw[Zc,<-K.out]));refine Zr (v:=.agg L.toArray) (res_load1 Tryz.results174 rfl u.out) rfl ?_;exact⟨by rw[U.out],H.grown Q H.size (λq Z=>by cases Z;omega)⟩
theorem Bm.TC.setBools:∀(hs:List Bool) (o:Nat) (f:N_) (w:World),o+hs.length<=n->TC b (bl f n) w->TC b (bl (λj=>if o<=j/\j<o+hs.length then hs.getD (j-o) false else f j) n) (w.setCells b o (hs.map .bool))
 |[],o,f,w,_,h=>by
  have:bl (λj=>if o<=j/\j<o+([]:List Bool).length then ([]:List Bool).getD (j-o) false else f j) n=bl f n:=YU (λi _=>by
   have:¬(o<=i/\i<o+([]:List Bool).length):=by simp
   simp only[this,if_false])
  rw[this];exact h
 |x::hs,o,f,w,hl,h=>by
  have c:o+(hs.length+1)<=n:=by simpa using hl
  have h1:=h.set o (by rw[Y9];omega) (.bool x);rw[Uz]at h1;have h2:=Bm.TC.setBools hs (o+1) _ _ (by omega) h1;have e:bl (λj=>if o<=j/\j<o+(x::hs).length then (x::hs).getD (j-o) false else f j) n=bl (λj=>if o+1<=j/\j<o+1+hs.length then hs.getD (j-(o+1)) false else if j=o then x else f j) n:=YU (λi _=>by
   simp only[List.length_cons];by_cases a:i=o
   ·subst a;rw[p_,g_];simp
   by_cases e2:o+1<=i/\i<o+1+hs.length
   ·rw[p_,if_pos e2,show i-o=(i-(o+1))+1 by omega];simp
   rw[g_,if_neg e2,if_neg a])
  rw[e];exact h2
theorem Es (f:N_) (n:Nat):bl f n=((List.range n).map f).map .bool:=by simp[bl]
theorem SI (w:World):(zeroValue 135).run Tryz.prog w=.ok (.agg (bl (λ_=>false) 104).toArray) w:=by kernel_rfl
theorem Yw:(Tryz.prog.info? 135).map (·.size)=some 104:=by kernel_rfl
theorem Bm.TC.part (h:TC b (bl f n) w) (y:m<=n):TC b (bl f m) w:=λk v a=>by
 have c:k<m:=by have:=(Zi.1 a).1;rw[Y9]at this;exact this
 rw[YO _ c]at a;exact h k v (by rw[YO _ (by omega)];exact a)
theorem GJ (f g:N_) (w:World):
  Cp 175 #[.agg (bl f 104).toArray,.agg (bl g 104).toArray] w λe w'=>e=.returned (.agg (bl (λi=>f i || g i) 104).toArray)/\Bl w w':=by
 have hz:=SI;obtain⟨W,Q⟩:=nam (((w.alloc (.cells (bl f 104).toArray 135)).alloc (.cells (bl g 104).toArray 135)).alloc (.cells (bl (λ_=>false) 104).toArray 135));have h1:(w.alloc (.cells (bl f 104).toArray 135)).heap.size=w.heap.size+1:=by simp
 have h2:((w.alloc (.cells (bl f 104).toArray 135)).alloc (.cells (bl g 104).toArray 135)).heap.size=w.heap.size+2:=by simp
 have o:=TC.boxed w (bl f 104) 135;have t:=TC.boxed (w.alloc (.cells (bl f 104).toArray 135)) (bl g 104) 135;have F:=TC.boxed ((w.alloc (.cells (bl f 104).toArray 135)).alloc (.cells (bl g 104).toArray 135)) (bl (λ_=>false) 104) 135;rw[h1]at t;rw[h2,<-Q]at F;have x1:=box_bel w (.cells (bl f 104).toArray 135);have x2:=box_bel (w.alloc (.cells (bl f 104).toArray 135)) (.cells (bl g 104).toArray 135);have x3:=box_bel ((w.alloc (.cells (bl f 104).toArray 135)).alloc (.cells (bl g 104).toArray 135)) (.cells (bl (λ_=>false) 104).toArray 135);rw[<-Q]at x3;have D:TC w.heap.size (bl f 104) W:=(o.block (x2.block _ o.ltB)).block (x3.block _ (by omega));have E:TC (w.heap.size+1) (bl g 104) W:=t.block (x3.block _ (by omega));have H:Bl w W:=(x1.trans (x2.mono (by omega))).trans (x3.mono (by omega));clear o t x1 x2 x3 h1 h2;have Z:=(D.part (m:=96) (by omega)).range;have r2:=(E.part (m:=96) (by omega)).range;rw[Q]at Z r2;go_enter Tryz.func175,Tryz.ntmps175;go_wp2_with (first|(refine Zb rfl 132 _ rfl w.heap.size 0 rfl (bl f 96) _ Z u_a rfl (by rw[Y9];exact Y1) ?_)|(refine Zb rfl 132 _ rfl (w.heap.size+1) 0 rfl (bl g 96) _ r2 u_a rfl (by rw[Y9];exact Y1) ?_));rw[<-Q];clear Q Z r2;refine Calls.mono (Xw f g W) ?_;rintro e w1 ⟨rfl,z⟩;have o:=D.block (z.block _ D.ltB);have t:=E.block (z.block _ E.ltB);have G:=F.block (z.block _ F.ltB);have I:=H.trans (z.mono H.size);clear D E F H z;have B:w1.there w.heap.size 0 96:=by have:=(o.part (m:=96) (by omega)).there;rw[Y9]at this;exact this
 obtain⟨L,u⟩:=nam (bl (λi=>f i || g i) 96);have n:L.length=96:=by rw[u];exact Y9 _ _
 have l:TC w.heap.size (bl (λi=>if i<96 then f i || g i else f i) 104) (w1.setCells w.heap.size 0 L):=by
  have h:=o.setBools ((List.range 96).map λi=>f i || g i) 0 f w1 (by simp);rw[<-Es,<-u]at h;rw[YU (λi hi=>?_)]
  ·exact h
  by_cases e:i<96
  ·simp[e,Zf]
  simp[e]
 have T:=Y8 w.heap.size L 0 w1;have a:=t.block (T.block _ t.ltB (λe=>by have:=Zh e;omega));have b:=G.block (T.block _ G.ltB (λe=>by have:=Zh e;omega));have c:=I.grown T I.size (λq X=>by cases X;exact Zg _);have C:Hid (L.toArray.all (·.oneCell')=true):=by show _=true;rw[u];exact YL _ _
 have d:=hyd n;obtain⟨W2,J⟩:=nam (w1.setCells w.heap.size 0 L);rw[<-J]at l a b c;have M:=hyd J;rw[<-u];clear o t G I T u n J;go_wp2_with (first|(refine Za rfl 132 _ _ rfl w.heap.size 0 L.toArray rfl rfl (by simpa[d.out]using B) (by simpa[d.out]using Y1) C.out ?_;rw[Zc,<-M.out]));clear B C d M
 go_loopw [5] (λx w'=>∃r:Nat,r<=8/\x=I6 r/\TC w.heap.size (bl (λi=>if i<96+r then f i || g i else f i) 104) w'/\TC (w.heap.size+1) (bl g 104) w'/\TC (w.heap.size+2) (bl (λ_=>false) 104) w'/\Bl w w') (λx _=>8-(intOf x).toNat)
 ·exact⟨0,by omega,rfl,l,a,b,c⟩
 clear l a b c;obtain⟨r,hr,rfl,o,t,F,S⟩:=hrel;by_cases ae:r<8
 ·have aa:(r:Int)<8:=by omega
  obtain⟨c1,ab⟩:=o (96+r) _ (YO _ (by omega));have c2:=(t (96+r) _ (YO _ (by omega))).1;simp only[Nat.lt_irrefl,if_false]at c1;have l:=o.set (96+r) (by rw[Y9];omega) (.bool (f (96+r) || g (96+r)));rw[Uz]at l;have s:TC w.heap.size (bl (λi=>if i<96+(r+1) then f i || g i else f i) 104) (wr.setCell (a_ w.heap.size (96+r)) (.bool (f (96+r) || g (96+r)))):=by
   rw[YU (g:=λj=>if j=96+r then f (96+r) || g (96+r) else if j<96+r then f j || g j else f j) (λi _=>?_)]
   ·exact l
   by_cases e:i=96+r
   ·subst e;simp
   by_cases e1:i<96+r
   ·simp[e,e1,show i<96+(r+1) by omega]
   simp[e,e1,show ¬i<96+(r+1) by omega]
  have V:∀k,k≠w.heap.size->(wr.setCell (a_ w.heap.size (96+r)) (.bool (f (96+r) || g (96+r)))).heap[k]?=wr.heap[k]?:=λk hk=>Zq wr (a_ w.heap.size (96+r)) _ k (λe=>hk e)
  have a:=t.block (V (w.heap.size+1) (by omega));have b:=F.block (V (w.heap.size+2) (by omega));have c:=S.setCell (p:=(a_ w.heap.size (96+r))) (Zg _) (.bool (f (96+r) || g (96+r)));obtain⟨x,hx⟩:=nam (f (96+r));obtain⟨y,hy⟩:=nam (g (96+r));rw[<-hx]at c1 s a b c;rw[<-hy]at c2 s a b c;clear o t F S l V hx hy;cases x
  ·simp only[Bool.false_or]at s a b c;go_wp2;go_roundw
   ·exact⟨r+1,by omega,by go_num,s,a,b,c⟩
   simp[intOf];omega
  simp only[Bool.true_or]at s a b c;go_wp2;go_roundw
  ·exact⟨r+1,by omega,by go_num,s,a,b,c⟩
  simp[intOf];omega
 have ac:¬(r:Int)<8:=by omega
 obtain⟨L,u⟩:=nam (bl (λi=>f i || g i) 104);have O:bl (λi=>if i<96+r then f i || g i else f i) 104=L:=by rw[u];exact YU (λi hi=>by simp[show i<96+r by omega])
 have n:L.length=104:=by rw[u];exact Y9 _ _
 rw[O]at o;have Y:=o.range;have B:wr.there (w.heap.size+2) 0 104:=by have:=F.there;rw[Y9]at this;exact this
 have hG:=Y8 (w.heap.size+2) L 0 wr;have R:=Zo wr (w.heap.size+2) 0 L (by rw[n];exact B);have A:=ZF (P:=Tryz.prog) (wr.setCells (w.heap.size+2) 0 L) (w.heap.size+2) 0 135 L _ R u_d rfl (by rw[n];exact Yw);obtain⟨W9,K⟩:=nam (wr.setCells (w.heap.size+2) 0 L);rw[<-K]at hG A;have U:=hyd K;have N:=hyd A;have C:Hid (L.toArray.all (·.oneCell')=true):=by show _=true;rw[u];exact YL _ _
 have d:=hyd n;have HL:=hyd u;clear K R A u n o t F O;go_wp2_with (first|(refine Zb rfl 135 _ rfl w.heap.size 0 rfl L _ Y u_d rfl (by rw[d.out];exact Yw) ?_)|(refine Za rfl 135 _ _ rfl (w.heap.size+2) 0 L.toArray rfl rfl (by simpa[d.out]using B) (by simpa[d.out]using Yw) C.out ?_;rw[Zc,<-U.out]));refine Zr (v:=.agg L.toArray) (res_load1 Tryz.results175 rfl N.out) rfl ?_;exact⟨by rw[HL.out],S.grown hG S.size (λq X=>by cases X;omega)⟩
theorem QD (w:World):(zeroValue 150).run Tryz.prog w=.ok (.agg #[sN,sN]) w:=by
 go_simp
theorem WT:(Tryz.prog.info? 150).map (·.size)=some 2:=by kernel_rfl
structure FN (w:World) (vo vf:Value) (lo lf:List Int) (W:World):Prop where
 z:TC w.heap.size [.slice none 0 0,.slice none 0 0] W
 s:TC (w.heap.size+1) [vo,vf] W
 o:OwnL (w.heap.size+2) vo lo W
 f:OwnL (w.heap.size+2) vf lf W
 ne:∀k,vo.ownBlock=some k->vf.ownBlock≠some k
 b:Below w.heap.size w W
theorem FN.size {lo:List Int} (h:FN w vo vf lo lf W):w.heap.size+2<=W.heap.size:=by have:=h.s.lt;omega
theorem FN.below {lo:List Int} (h:FN w vo vf lo lf W) (y:Bl W W'):FN w vo vf lo lf W':=
 ⟨h.z.below y,h.s.below y,h.o.below y,h.f.below y,h.ne,h.b.trans (y.mono h.b.size)⟩
theorem FN.putF {w:World}{vo vf:Value}{lo lf:List Int}{W W1 w5:World}{x:Int}{g cap:Nat}{ob:Obj} (h:FN w vo vf lo lf W) (y:W1=W.alloc ob)
  (Y:OwnL (w.heap.size+2) (sL g (lf.length+1) cap) (lf++[x]) w5) (H:W1.grownBy w5 vf.ownBlock) (J:vf.ownBlock=some g\/g=W1.heap.size):
  FN w vo (sL g (lf.length+1) cap) lo (lf++[x]) (w5.setCell (a_ (w.heap.size+1) 1) (sL g (lf.length+1) cap)):=by
 have hs:=h.size;have x1:Bl W W1:=by rw[y];exact box_bel _ _
 have m:W1.heap.size=W.heap.size+1:=by rw[y];simp
 have k1:=h.below x1;have n:=H.size;have d:∀k,k≠w.heap.size+1->(w5.setCell (a_ (w.heap.size+1) 1) (sL g (lf.length+1) cap)).heap[k]?=w5.heap[k]?:=λk a=>Zq w5 (a_ (w.heap.size+1) 1) _ k (λe=>a e)
 have c:=h.f.blk;have i:w.heap.size+2<=g:=(Y.blk g rfl).1;refine⟨?_,?_,?_,?_,?_,?_⟩
 ·refine(k1.z.block (H.block _ (by omega) (λe=>?_))).block (d _ (by omega));have:=(c _ e.symm).1;omega
 ·exact(k1.s.block (H.block _ (by omega) (λe=>by have:=(c _ e.symm).1;omega))).set 1 (by simp) _
 ·exact(k1.o.grown H (λk a e=>h.ne k a e)).keep (λk a=>d k (by have:=(h.o.blk k a).1;omega))
 ·exact Y.keep (λk a=>d k (by cases a;show g≠_;omega))
 ·intro k a e;have e2:g=k:=Zh e;have j:=h.o.blk k a;rcases J with h1|h1
  ·rw[e2]at h1;exact h.ne k a h1
  omega
 exact(k1.b.grown H (by omega) (λq l=>by have:=(c q l).1;omega)).setCell (p:=(a_ (w.heap.size+1) 1)) (Nat.le_succ _) _
theorem FN.putO {w:World}{vo vf:Value}{lo lf:List Int}{W W1 w5:World}{x:Int}{g cap:Nat}{ob:Obj} (h:FN w vo vf lo lf W) (y:W1=W.alloc ob)
  (Y:OwnL (w.heap.size+2) (sL g (lo.length+1) cap) (lo++[x]) w5) (H:W1.grownBy w5 vo.ownBlock) (J:vo.ownBlock=some g\/g=W1.heap.size):
  FN w (sL g (lo.length+1) cap) vf (lo++[x]) lf (w5.setCell (a_ (w.heap.size+1) 0) (sL g (lo.length+1) cap)):=by
 have hs:=h.size;have x1:Bl W W1:=by rw[y];exact box_bel _ _
 have m:W1.heap.size=W.heap.size+1:=by rw[y];simp
 have k1:=h.below x1;have n:=H.size;have d:∀k,k≠w.heap.size+1->(w5.setCell (a_ (w.heap.size+1) 0) (sL g (lo.length+1) cap)).heap[k]?=w5.heap[k]?:=λk a=>Zq w5 (a_ (w.heap.size+1) 0) _ k (λe=>a e)
 have c:=h.o.blk;have i:w.heap.size+2<=g:=(Y.blk g rfl).1;refine⟨?_,?_,?_,?_,?_,?_⟩
 ·refine(k1.z.block (H.block _ (by omega) (λe=>?_))).block (d _ (by omega));have:=(c _ e.symm).1;omega
 ·exact(k1.s.block (H.block _ (by omega) (λe=>by have:=(c _ e.symm).1;omega))).set 0 (by simp) _
 ·exact Y.keep (λk a=>d k (by cases a;show g≠_;omega))
 ·exact(k1.f.grown H (λk a e=>h.ne k e a)).keep (λk a=>d k (by have:=(h.f.blk k a).1;omega))
 ·intro k a e;have e2:g=k:=Zh a;have j:=h.f.blk k e;rcases J with h1|h1
  ·rw[e2]at h1;exact h.ne k h1 e
  omega
 exact(k1.b.grown H (by omega) (λq l=>by have:=(c q l).1;omega)).setCell (p:=(a_ (w.heap.size+1) 0)) (Nat.le_succ _) _
def Va (E:Nat->Nat->Bool) (n:Nat):List Int:=(List.range n).map (idxI E)
def YS (E:Nat->Nat->Bool) (n:Nat):List Int:=(reps E n).map λ(a:Nat)=>(a:Int)
theorem Q3 (E:Nat->N_) (n:Nat):Va E (n+1)=Va E n++[idxI E n]:=by simp[Va,ZT]
theorem Xo (E:Nat->N_) (n:Nat):(Va E n).length=n:=by simp[Va]
theorem YJ (E:Nat->N_) (n:Nat):(YS E n).length=cnt E n:=by simp[YS,cnt]
theorem Ww (E:Nat->N_) (n:Nat):YS E (n+1)=YS E n++if least E n=n then [(n:Int)] else []:=by
 unfold YS;rw[reps_succ,List.map_append];split<;>rfl
def QL (E:Nat->Nat->Bool) (n:Nat) (w:World) (e:Ending) (w':World):Prop:=
 ∃vo vf,e=.returned (.agg #[vo,vf])/\OwnL w.heap.size vo (Va E n) w'/\OwnL w.heap.size vf (YS E n) w'/\(∀k,vo.ownBlock=some k->vf.ownBlock≠some k)/\Below w.heap.size w w'
theorem Gq (gb:Nat) (A:Aut) (ta:Option Addr) (tc:Nat) (sv:Value) (oa:Option Addr) (oc:Nat) (of:Nat->Int) (w:World) (hA:Aut.Small A) (hr:∀s k,s<A.N->k<A.K->-1<=A.to s k/\A.to s k<A.N) (hG:Gr gb A ta tc sv w) (hO:IL oa of A.N w):
  Cp 131 #[pT gb,.slice oa A.N oc] w (QL (Tg A of) A.N w):=by
 have hz:=QD;have hn:=hA.n;have HC:Hid (∀(a b:Nat) (w':World),a<A.N->b<A.N->Bl w w'->Cp 176 #[pT gb,.slice oa A.N oc,I6 a,I6 b] w' λe w''=>e=.returned (.bool (Tg A of a b))/\Bl w' w''):=λa b w' ha hb h'=>L1 gb A ta tc sv oa oc of a b w' hA hr (hG.below h') (hO.below h') ha hb
 have HE:=hyd (Tg_eqv A of A.N);clear hG hO hr hA;generalize Tg A of=E at *;obtain⟨W,hW⟩:=nam ((w.alloc (.cells #[sN,sN] 150)).alloc (.cells #[sN,sN] 150));have S0:FN w (sN) (sN) (Va E 0) (YS E 0) W:=by
  have aL:(w.alloc (.cells #[sN,sN] 150)).heap.size=w.heap.size+1:=by simp
  rw[hW];refine⟨(TC.boxed w [sN,sN] _).below (box_bel _ _),?_,OwnL.nil _ _,OwnL.nil _ _,λk hk=>(by cases hk),(box_bel w _).trans ((box_bel _ _).mono (by simp))⟩;rw[<-aL];exact TC.boxed _ [sN,sN] _
 go_enter Tryz.func131,Tryz.ntmps131;go_wp2;rw[<-hW];clear hW
 go_loopw [6] (λx w'=>∃(a:Nat) (vo vf:Value),a<=A.N/\x=I6 a/\FN w vo vf (Va E a) (YS E a) w') (λx _=>A.N-(intOf x).toNat)
 ·exact⟨0,_,_,by omega,rfl,S0⟩
 clear S0;obtain⟨a,vo,vf,ha,rfl,S⟩:=hrel;by_cases Z:a<A.N
 ·have aQ:(a:Int)<(A.N:Int):=by omega
  obtain⟨fa,J,aN,_⟩:=S.f.il;obtain⟨p,vc,aO,_⟩:=S.o.il;subst aN;subst aO;rw[YJ]at S;rw[Xo]at S;have l:=rep_new HE Z;have aD:=cnt_le E a;obtain⟨id,X⟩:=nam (idx E a);rw[<-X]at l;have u:=hyd X;clear X;obtain⟨c,hc⟩:=nam (cnt E a);have Hc:=hyd hc;rw[<-hc]at l aD S;clear hc;have t:=hyd l.1;have am:=l.2;clear l;go_wp2
  go_loopw [7] (λx w'=>∃j:Nat,j<=id/\x=I6 j/\FN w (.slice p a vc) (.slice fa c J) (Va E a) (YS E a) w') (λx _=>c-(intOf x).toNat)
  ·exact⟨0,by omega,rfl,S⟩
  clear S;obtain⟨j,hj,rfl,S⟩:=hrel;have c1:=(S.s 1 _ rfl).1;have c0:=(S.s 0 _ rfl).1;by_cases aF:j<c
  ·have aP:(j:Int)<c:=by omega
   obtain⟨r,hr⟩:∃r,(reps E a)[j]?=some r:=⟨(reps E a)[j]'(by have:=Hc.out;unfold cnt at this;omega),Zd _⟩;have aK:=reps_mem hr;have Y:=rep_like HE.out Z hr;rw[<-u.out]at Y;obtain⟨aR,ai,aq,ab⟩:=S.f.il;have ar:=(Value.slice.inj aq).1;rw[<-ar]at ab;obtain⟨ay,az,aE,c2⟩:=ab j (by rw[YJ,<-Hc.out];exact aF);subst aE;clear ar;have al:(YS E a).getD j 0=(r:Int):=by simp[YS,Zf,hr]
   simp only[al]at c2;have ac:=HC.out r a wr (by omega) Z S.b;have F:Hid (Cp 176 #[pT gb,.slice oa A.N oc,I6 r,I6 a] wr λe w''=>e=.returned (.bool (E r a))/\Bl wr w''):=ac;have ah:=hyd Y;clear ac Y hr aK aq ab al;go_wp2_with fail;refine F.out.mono ?_;rintro e w2 ⟨rfl,aj⟩;have S2:=S.below aj;clear S c0 c1 c2 F aj;cases hE:E r a
   ·have aU:j≠id:=λe=>by have:=ah.out.2 e;rw[hE]at this;cases this
    go_wp2;go_roundw
    ·exact⟨j+1,by omega,by go_num,S2⟩
    simp[intOf];omega
   have aG:=ah.out.1 hE;subst aG;have H:least E a≠a:=λe=>by have:=t.out.2 e;omega
   have q1:((j:Int)==(c:Int))=false:=by simp;omega
   have c1:=(S2.s 1 _ rfl).1;have c0:=(S2.s 0 _ rfl).1;have m:=box_bel w2 (.cells #[I6 (j:Int)] 3);have L:=S2.o.below m;have aa:(w2.alloc (.cells #[I6 (j:Int)] 3)).cell? (a_ w2.heap.size 0)=some (I6 (j:Int)):=by rw[Zm];rfl
   have Q:=ZJ S2.size m.size;have HK:Hid (∀w5,(w2.alloc (.cells #[I6 (j:Int)] 3)).grownBy w5 (Value.slice p a vc).ownBlock->TC (w.heap.size+1) [.slice p a vc,.slice (some (a_ ay az)) c J] w5):=λw5 hg=>
    (S2.s.below m).block (hg.block _ (by have:=S2.size;have:=m.size;omega) (λe=>by have:=(S2.o.blk _ e.symm).1;omega))
   have I:=hyd S2;have y:=hyd H;clear S2 m H;go_wp2_with (first|(at_builtin;refine wpList_append_int (by rfl) _ _ (by rfl) (w.heap.size+2) (.slice p a vc) (Va E a) (by rfl) L (by rw[Xo];omega) w2.heap.size (j:Int) (by rfl) aa Q _ rfl ?_;intro g cap w5 M d T aH;have c5:=(HK.out w5 d 0 _ rfl).1;have ax:=(HK.out w5 d 0 _ rfl).2));have S3:=I.out.putO rfl M d T;have e1:Va E a++[(j:Int)]=Va E (a+1):=by rw[Q3];unfold idxI;rw[<-u.out]
   have e2:YS E (a+1)=YS E a:=by rw[Ww,if_neg y.out,List.append_nil]
   rw[e1,<-e2,Xo]at S3;rw[Xo];go_roundw
   ·exact⟨a+1,_,_,by omega,by go_num,S3⟩
   simp[intOf];omega
  have⟨U,hjc2⟩:¬(j:Int)<c/\c=j:=by omega
  have V:id=c:=by omega
  have G:=t.out.1 V;have au:=hyd V;clear U V hj am t;subst hjc2;have U:¬(c:Int)<c:=by omega
  have q1:((c:Int)==(c:Int))=true:=by simp
  have m:=box_bel wr (.cells #[I6 (a:Int)] 3);have L:=S.f.below m;have aa:(wr.alloc (.cells #[I6 (a:Int)] 3)).cell? (a_ wr.heap.size 0)=some (I6 (a:Int)):=by rw[Zm];rfl
  have Q:=ZJ S.size m.size;have HK:Hid (∀w5,(wr.alloc (.cells #[I6 (a:Int)] 3)).grownBy w5 (Value.slice fa c J).ownBlock->TC (w.heap.size+1) [.slice p a vc,.slice fa c J] w5):=λw5 hg=>
   (S.s.below m).block (hg.block _ (by have:=S.size;have:=m.size;omega) (λe=>by have:=(S.f.blk _ e.symm).1;omega))
  have I:=hyd S;have y:=hyd G;clear S m G;have R:=YJ E a;rw[<-Hc.out]at R;have C:=hyd R;clear R;have HX:Hid (∀g cap w5,OwnL (w.heap.size+2) (sL g (c+1) cap) (YS E a++[(a:Int)]) w5->(wr.alloc (.cells #[I6 (a:Int)] 3)).grownBy w5 (Value.slice fa c J).ownBlock->((Value.slice fa c J).ownBlock=some g\/g=(wr.alloc (.cells #[I6 (a:Int)] 3)).heap.size) ->
    FN w (.slice p a vc) (sL g (c+1) cap) (Va E a) (YS E a++[(a:Int)]) (w5.setCell (a_ (w.heap.size+1) 1) (sL g (c+1) cap))):=λg cap w5 h1 h2 h3=>by
   have h:=I.out.putF (x:=(a:Int)) (g:=g) (cap:=cap) rfl (by rw[C.out];exact h1) h2 h3;rw[C.out]at h;exact h
  have av:Hid (∀(g cap:Nat) (w5:World),FN w (.slice p a vc) (sL g (c+1) cap) (Va E a) (YS E a++[(a:Int)]) (w5.setCell (a_ (w.heap.size+1) 1) (sL g (c+1) cap)) ->
    OwnL (w.heap.size+2) (.slice p a vc) (Va E a) ((w5.setCell (a_ (w.heap.size+1) 1) (sL g (c+1) cap)).alloc (.cells #[I6 (c:Int)] 3)) /\
    ((w5.setCell (a_ (w.heap.size+1) 1) (sL g (c+1) cap)).alloc (.cells #[I6 (c:Int)] 3)).cell? (a_ w5.heap.size 0)=some (I6 (c:Int)) /\
    w.heap.size+2<=((w5.setCell (a_ (w.heap.size+1) 1) (sL g (c+1) cap)).alloc (.cells #[I6 (c:Int)] 3)).heap.size /\
    ∀D,((w5.setCell (a_ (w.heap.size+1) 1) (sL g (c+1) cap)).alloc (.cells #[I6 (c:Int)] 3)).grownBy D (Value.slice p a vc).ownBlock->TC (w.heap.size+1) [.slice p a vc,sL g (c+1) cap] D):=λg cap w5 hF=>by
   have aM:(w5.setCell (a_ (w.heap.size+1) 1) (sL g (c+1) cap)).heap.size=w5.heap.size:=by simp[World.setCell]
   generalize w5.setCell (a_ (w.heap.size+1) 1) (sL g (c+1) cap)=W5 at *;have m:=box_bel W5 (.cells #[I6 (c:Int)] 3);refine⟨hF.o.below m,by rw[<-aM,Zm];rfl,ZJ hF.size m.size,λD hg=>?_⟩;exact(hF.s.below m).block (hg.block _ (by have:=hF.size;have:=m.size;omega) (λe=>by have:=(hF.o.blk _ e.symm).1;omega))
  go_wp2_with (first|(at_builtin;refine wpList_append_int (by rfl) _ _ (by rfl) (w.heap.size+2) (.slice fa c J) (YS E a) (by rfl) L (by rw[C.out];omega) wr.heap.size (a:Int) (by rfl) aa Q _ rfl ?_;rw[C.out];intro g cap w5 M d T aH;have c5:=(HK.out w5 d 1 _ rfl).1;have ax:=(HK.out w5 d 1 _ rfl).2;have S5:=HX.out g cap w5 M d T;have c6:=(S5.s 0 _ rfl).1;obtain⟨aA,aI,aC,an⟩:=av.out g cap w5 S5;have ag:Hid (∀D,((w5.setCell (a_ (w.heap.size+1) 1) (sL g (c+1) cap)).alloc (.cells #[I6 (c:Int)] 3)).grownBy D (Value.slice p a vc).ownBlock->TC (w.heap.size+1) [.slice p a vc,sL g (c+1) cap] D):=an;clear an)|(at_builtin;refine wpList_append_int (by rfl) _ _ (by rfl) (w.heap.size+2) (.slice p a vc) (Va E a) (by rfl) aA (by rw[Xo];omega) w5.heap.size (c:Int) (by rfl) aI aC _ rfl ?_;intro g2 ai D aB i ak aT;have c7:=(ag.out D i 0 _ rfl).1;have aS:=(ag.out D i 0 _ rfl).2));have S7:=S5.putO rfl aB i ak;have e1:Va E a++[(c:Int)]=Va E (a+1):=by rw[Q3];unfold idxI;rw[<-u.out,au.out]
  have e2:YS E a++[(a:Int)]=YS E (a+1):=by rw[Ww,if_pos y.out]
  rw[e1,e2,Xo]at S7;rw[Xo];go_roundw
  ·exact⟨a+1,_,_,by omega,by go_num,S7⟩
  simp[intOf];omega
 have⟨U,haN⟩:¬(a:Int)<(A.N:Int)/\a=A.N:=by omega
 have aJ:=S.s.range;have ap:=S.z.there;have hG:=Y8 w.heap.size [vo,vf] 0 wr;have ao:=Zo wr w.heap.size 0 [vo,vf] ap;have B:=ZF (P:=Tryz.prog) (wr.setCells w.heap.size 0 [vo,vf]) w.heap.size 0 150 [vo,vf] _ ao u_l rfl WT;obtain⟨W9,O⟩:=nam (wr.setCells w.heap.size 0 [vo,vf]);rw[<-O]at hG B;have aw:=hyd O;have af:=hyd B;have ae:Hid (vo.oneCell'=true/\vf.oneCell'=true):=by
  obtain⟨a1,c1,h1,_⟩:=S.o.il;obtain⟨a2,c2,h2,_⟩:=S.f.il;rw[h1,h2];exact⟨rfl,rfl⟩
 clear O ao B;go_wp2_with (first|(refine Zb rfl 150 _ rfl (w.heap.size+1) 0 rfl [vo,vf] _ aJ u_l rfl WT ?_)|(refine Za rfl 150 _ _ rfl w.heap.size 0 #[vo,vf] rfl rfl ap WT (by simp[ae.out.1,ae.out.2]) ?_;rw[Zc,<-aw.out]));refine Zr (v:=.agg #[vo,vf]) (res_load1 Tryz.results131 rfl af.out) rfl ?_;rw[haN]at S;refine⟨vo,vf,rfl,(S.o.grown hG (λk hk e=>?_)).mono (by omega),(S.f.grown hG (λk hk e=>?_)).mono (by omega),S.ne,S.b.grown hG S.b.size (λq hq=>by cases hq;exact Zg _)⟩
 ·have:=(S.o.blk k hk).1;have:=Zh e;omega
 have:=(S.f.blk k hk).1;have:=Zh e;omega
def To (f:Nat->Bool):Nat->Nat->Int
 |0,_=>-1
 |u+1,r=>if f r then (r:Int) else To f u (r+1)
theorem Jv (f:N_):∀u r,-1<=To f u r/\To f u r<(u+r:Nat)
 |0,r=>by unfold To;omega
 |u+1,r=>by
  have:=Jv f u (r+1);rw[To];split<;>omega
theorem Qa (b o:Nat) (f:N_) (w:World) (h:∀r,r<8->w.cell? (a_ b (o+96+r))=some (.bool (f r))):
  Cp 130 #[.pointer (some (a_ b o))] w λe w'=>e=.returned (I6 (To f 8 0))/\w'=w:=by
 obtain⟨R,g⟩:=nam (To f 8 0);rw[<-g];have d:=hyd g;have H:=hyd h;clear g h;go_enter Tryz.func130,Tryz.ntmps130;go_wp2
 go_loopw [3] (λx w'=>∃(u r:Nat),u+r=8/\x=I6 r/\Hid (R=To f u r)/\w'=w) (λx _=>8-(intOf x).toNat)
 ·exact⟨8,0,rfl,rfl,d,rfl⟩
 clear d;obtain⟨u,r,k,rfl,d,rfl⟩:=hrel;by_cases i:r<8
 ·have j:(r:Int)<8:=by omega
  rcases u with _|u
  ·omega
  have c:=H.out r i;cases hf:f r
  ·rw[hf]at c;have a:Hid (R=To f u (r+1)):=by show _=_;rw[d.out,To,hf];rfl
   clear d hf;go_wp2;go_roundw
   ·exact⟨u,r+1,by omega,by go_num,a,trivial⟩
   simp[intOf];omega
  rw[hf]at c;have a:Hid (R=r):=by show _=_;rw[d.out,To,hf];rfl
  clear d hf;go_wp2;go_ret;exact⟨YY a.out.symm,rfl⟩
 have⟨hge,hu0⟩:¬(r:Int)<8/\u=0:=by omega
 subst hu0;have a:Hid (R=-1):=d;go_wp2;go_ret;exact⟨YY a.out.symm,rfl⟩
def SR (sa:Option Addr) (rl:Nat->Nat->Bool) (n:Nat) (w:World):Prop:=∀i,i<n->∃b off,sa=some ⟨b,off,none⟩/\∀r,r<8->w.cell? ⟨b,off+i*104+96+r,none⟩=some (.bool (rl i r))
theorem SR.below {z:Option Addr}{y:Nat->N_} (h:SR z y n w) (H:Bl w w'):SR z y n w':=λi f=>by
 obtain⟨b,a,e,c⟩:=h i f;refine⟨b,a,e,λr d=>?_⟩;rw[H.cell (p:=(a_ b (a+i*104+96+r))) (Ze w _ (c r d))];exact c r d
theorem IL.congr {f g:Nat->Int} (h:IL ad f n w) (e:∀i,i<n->f i=g i):IL ad g n w:=λi c=>by
 obtain⟨b,a,h1,h2⟩:=h i c;exact⟨b,a,h1,by rw[<-e i c];exact h2⟩
theorem FN.putB {H y:Value}{lo:List Int} (h:FN w vo vf lo lf W) (Z:OwnL (w.heap.size+2) H lo' W) (Y:OwnL (w.heap.size+2) y lf' W) (J:∀k,H.ownBlock=some k->y.ownBlock≠some k):
  FN w H y lo' lf' (W.setCells (w.heap.size+1) 0 [H,y]):=by
 have c:=Y8 (w.heap.size+1) [H,y] 0 W;have hs:=h.size;refine⟨h.z.block (c.block _ (by omega) (λe=>by have:=Zh e;omega)),?_,Z.grown c (λk a e=>?_),Y.grown c (λk a e=>?_),J,h.b.grown c h.b.size (λq f=>by cases f;omega)⟩
 ·intro k v d;have h1:=Zo W (w.heap.size+1) 0 [H,y] h.s.there k v d;have a:=(Zi.1 d).1;have h2:=(h.s.there k a).2;rw[Zn]at h1 h2;exact⟨h1,by rw[World.frozen?_setCells];exact h2⟩
 ·have:=(Z.blk k a).1;have:=Zh e;omega
 have:=(Y.blk k a).1;have:=Zh e;omega
def FT (A:Aut) (n:Nat):List Int:=(List.range n).map λi=>A.vd i+1
theorem FI (A:Aut) (n:Nat):FT A (n+1)=FT A n++[A.vd n+1]:=by simp[FT,ZT]
theorem Rn (A:Aut) (n:Nat):(FT A n).length=n:=by simp[FT]
def TG (A:Aut) (g:Int) (lo lf:List Int):Prop:=
 (g=-1/\lo=FT A A.N/\lf=[])\/(g=0/\lo=Va (Tg A λa=>A.vd a+1) A.N/\lf=YS (Tg A λa=>A.vd a+1) A.N) \/
 ∃E,Part A E/\g=cnt E A.N/\lo=Va (Tg A (idxI E)) A.N/\lf=YS (Tg A (idxI E)) A.N
theorem Dv (h:0<n):0<cnt E n:=by
 have h1:=cnt_mono E (show 1<=n from h);have h2:least E 0=0:=by have:=least_le E 0;omega
 have h3:cnt E 1=cnt E 0+1:=by have:=cnt_succ E 0;rw[if_pos h2]at this;exact this
 omega
variable {A:Aut}
theorem TG.step (y:A.Good) {g:Int}{lo lf:List Int} (h:TG A g lo lf):∃of:Nat->Int,(∀i,i<A.N->lo.getD i 0=of i)/\lo.length=A.N/\TG A lf.length (Va (Tg A of) A.N) (YS (Tg A of) A.N):=by
 have c:∀E,∀i,i<A.N->(Va E A.N).getD i 0=idxI E i:=λE i b=>by simp[Va,Zf,b]
 rcases h with ⟨rfl,rfl,rfl⟩|⟨rfl,rfl,rfl⟩|⟨E,d,rfl,rfl,rfl⟩
 ·exact⟨λa=>A.vd a+1,λi b=>by simp[FT,Zf,b],Rn _ _,Or.inr (Or.inl ⟨rfl,rfl,rfl⟩)⟩
 ·exact⟨idxI (Tg A λa=>A.vd a+1),c _,Xo _ _,Or.inr (Or.inr ⟨_,Part.first y,by rw[YJ],rfl,rfl⟩)⟩
 exact⟨idxI (Tg A (idxI E)),c _,Xo _ _,Or.inr (Or.inr ⟨_,(d.next y).1,by rw[YJ],rfl,rfl⟩)⟩
theorem TG.done (z:A.Good) (H:0<A.N) {g:Int}{lo lf:List Int} (h:TG A g lo lf) (y:(lf.length:Int)<=g):lo=Va (alB A) A.N/\lf=YS (alB A) A.N:=by
 rcases h with ⟨rfl,rfl,rfl⟩|⟨rfl,rfl,rfl⟩|⟨E,j,rfl,rfl,rfl⟩
 ·simp at y
 ·rw[YJ]at y;have:=Dv (E:=Tg A λa=>A.vd a+1) H;omega
 rw[YJ]at y;have e:=j.stable z (by omega);have c:=Tg_eqv A (idxI E) A.N;have d:=alB_eqv A A.N;have f:∀a b,a<A.N->b<A.N->(Tg A (idxI E) a b=true<->alB A a b=true):=λa b ha k=>by rw[alB_iff];exact e a b ha k
 refine⟨?_,?_⟩
 ·unfold Va;refine ZO (λi l=>?_);show((idx (Tg A (idxI E)) i:Nat):Int)=((idx (alB A) i:Nat):Int);rw[idx_congr c d f (by simpa using l)]
 unfold YS;rw[reps_congr c d f _ (Zg _)]
theorem TG.lt {g:Int}{lo:List Int} (h:TG A g lo lf):lf.length<=A.N/\-1<=g:=by
 rcases h with ⟨rfl,rfl,rfl⟩|⟨rfl,rfl,rfl⟩|⟨E,b,rfl,rfl,rfl⟩
 ·simp
 ·rw[YJ];have:=cnt_le (Tg A λa=>A.vd a+1) A.N;omega
 rw[YJ];have:=cnt_le (Tg A (idxI E)) A.N;omega
theorem FW (gb:Nat) (A:Aut) (ta:Option Addr) (tc:Nat) (sa:Option Addr) (sc:Nat) (rl:Nat->N_) (w:World) (hA:Aut.Small A) (ar:A.Good) (hN:0<A.N) (hG:Gr gb A ta tc (.slice sa A.N sc) w) (hS:SR sa rl A.N w) (hv:∀i,i<A.N->A.vd i=To (rl i) 8 0):
  Cp 67 #[pT gb] w (QL (alB A) A.N w):=by
 have hz:=QD;have hn:=hA.n;have HF:Hid (∀(X:Option Addr) (oc:Nat) (of:Nat->Int) (w':World),Bl w w'->IL X of A.N w'->Cp 131 #[pT gb,.slice X A.N oc] w' (QL (Tg A of) A.N w')):=λX oc of w' J hO=>Gq gb A ta tc _ X oc of w' hA ar.rng (hG.below J) hO
 have HG:Hid (∀w',Bl w w'->w'.cell? (a_ gb 1)=some (.slice sa A.N sc)):=λw' J=>(hG.below J).c1
 have HS:Hid (∀w',Bl w w'->SR sa rl A.N w'):=λw' J=>hS.below J
 have HV:=hyd hv;have F:Hid A.Good:=ar;clear hG hS hA ar hv;obtain⟨W,hW⟩:=nam ((w.alloc (.cells #[sN,sN] 150)).alloc (.cells #[sN,sN] 150));have S0:FN w (sN) (sN) (FT A 0) [] W:=by
  have aj:(w.alloc (.cells #[sN,sN] 150)).heap.size=w.heap.size+1:=by simp
  rw[hW];refine⟨(TC.boxed w [sN,sN] _).below (box_bel _ _),?_,OwnL.nil _ _,OwnL.nil _ _,λk K=>(by cases K),(box_bel w _).trans ((box_bel _ _).mono (by simp))⟩;rw[<-aj];exact TC.boxed _ [sN,sN] _
 go_enter Tryz.func67,Tryz.ntmps67;go_wp2;rw[<-hW];clear hW
 go_loopw [4] (λx w'=>∃(a:Nat) (vo:Value),a<=A.N/\x=I6 a/\FN w vo (sN) (FT A a) [] w') (λx _=>A.N-(intOf x).toNat)
 ·exact⟨0,_,by omega,rfl,S0⟩
 clear S0;obtain⟨a,vo,ha,rfl,S⟩:=hrel;have c1:=HG.out wr S.b;by_cases C:a<A.N
 ·have am:(a:Int)<(A.N:Int):=by omega
  obtain⟨b,R,ak,hr⟩:=HS.out wr S.b a C;have H:Hid (Cp 130 #[.pointer (some (a_ b (R+a*104)))] wr λe w'=>e=.returned (I6 (A.vd a))/\w'=wr):=by
   rw[HV.out a C];exact Qa b (R+a*104) (rl a) wr hr
  have aq:-1<=A.vd a/\A.vd a<8:=by rw[HV.out a C];have:=Jv (rl a) 8 0;omega
  have S1:=hyd S;clear hr S;rw[ak]at c1;go_wp2_with fail;refine H.out.mono ?_;rintro e wr ⟨rfl,rfl⟩;clear H c1;obtain⟨D,vc,c,_⟩:=S1.out.o.il;rw[Rn]at c;subst c;obtain⟨y,hy⟩:=nam (A.vd a+1);have iy:=hy.symm;have Hy:=hyd hy;have S2:=S1.out;have c0:=(S2.s 0 _ rfl).1;have Q:=box_bel wr (.cells #[I6 y] 3);have ab:=S2.o.below Q;have ah:(wr.alloc (.cells #[I6 y] 3)).cell? (a_ wr.heap.size 0)=some (I6 y):=by rw[Zm];rfl
  have af:=ZJ S2.size Q.size;have HK:Hid (∀w5,(wr.alloc (.cells #[I6 y] 3)).grownBy w5 (Value.slice D a vc).ownBlock->TC (w.heap.size+1) [.slice D a vc,sN] w5):=λw5 hg=>
   (S2.s.below Q).block (hg.block _ (by have:=S2.size;have:=Q.size;omega) (λe=>by have:=(S2.o.blk _ e.symm).1;omega))
  clear S2 Q hy;go_wp2_with (first|(at_builtin;refine wpList_append_int (by rfl) _ _ (by rfl) (w.heap.size+2) (.slice D a vc) (FT A a) (by rfl) ab (by rw[Rn];omega) wr.heap.size y (by rfl) ah af _ rfl ?_;intro g cap w5 ac d ag ap;have c5:=(HK.out w5 d 0 _ rfl).1;have an:=(HK.out w5 d 0 _ rfl).2));have V:=S1.out.putO rfl ac d ag;have e1:FT A a++[y]=FT A (a+1):=by rw[FI,Hy.out]
  rw[e1,Rn]at V;rw[Rn];go_roundw
  ·exact⟨a+1,_,by omega,by go_num,V⟩
  simp[intOf];omega
 have⟨hge,haN⟩:¬(a:Int)<(A.N:Int)/\a=A.N:=by omega
 subst haN;have S1:=S;clear S;go_wp2
 go_loopw [6] (λx w'=>∃(g:Int) (vo vf:Value) (lo lf:List Int),x=I6 g/\FN w vo vf lo lf w'/\Hid (TG A g lo lf)) (λx _=>((A.N:Int)+1-intOf x).toNat)
 ·exact⟨-1,_,_,_,_,rfl,S1,Or.inl ⟨rfl,rfl,rfl⟩⟩
 clear S1 c1;obtain⟨g,vo,vf,lo,lf,rfl,S,G⟩:=hrel;obtain⟨D,vc,c,t⟩:=S.o.il;obtain⟨fa,h,al,_⟩:=S.f.il;subst c;subst al;have hb:=G.out.lt;obtain⟨m,hm⟩:=nam lf.length;have Hm:=hyd hm;rw[<-hm]at S hb;clear hm;by_cases ao:g<(m:Int)
 ·obtain⟨of,h1,h2,h3⟩:=G.out.step F.out;have u:IL D of A.N wr:=by rw[h2]at t;exact t.congr h1
  rw[h2]at S;have E:=hyd (HF.out D vc of wr S.b u);have Z:Hid (TG A m (Va (Tg A of) A.N) (YS (Tg A of) A.N)):=by rw[Hm.out];exact h3
  have c0:=(S.s 0 _ rfl).1;have c1:=(S.s 1 _ rfl).1;have p:=hyd S;clear S t u h1 h2 h3 G;go_wp2_with fail;refine E.out.mono ?_;rintro e w2 ⟨U,T,rfl,ho,hf,L,ae⟩;have S2:=p.out.below ae;have O:=p.out.size;have V:=S2.putB (ho.mono O) (hf.mono O) L;have r:=S2.s.there;have l:Hid (U.oneCell'=true/\T.oneCell'=true):=by
   obtain⟨a1,c1,h1,_⟩:=ho.il;obtain⟨a2,c2,h2,_⟩:=hf.il;rw[h1,h2];exact⟨rfl,rfl⟩
  clear S2 ho hf L E c0 c1;go_wp2_with (first|(refine Za rfl 150 _ _ rfl (w.heap.size+1) 0 #[U,T] rfl rfl r WT (by simp[l.out.1,l.out.2]) ?_;rw[Zc]));simp only[Act.put];go_roundw
  ·exact⟨m,_,_,_,_,rfl,V,Z⟩
  simp[intOf];omega
 have hd:=G.out.done F.out hN (by rw[<-Hm.out];omega);have c1:=(S.s 1 _ rfl).1;obtain⟨e1,e2⟩:=hd;subst e1;subst e2;obtain⟨vo,c⟩:=nam (Value.slice D (Va (alB A) A.N).length vc);have c0:=(S.s 0 _ rfl).1;rw[<-c]at S c0;have ai:=S.s.range;have r:=S.z.there;have hG:=Y8 w.heap.size [vo,.slice fa m h] 0 wr;have M:=Zo wr w.heap.size 0 [vo,.slice fa m h] r;have j:=ZF (P:=Tryz.prog) (wr.setCells w.heap.size 0 [vo,.slice fa m h]) w.heap.size 0 150 [vo,.slice fa m h] _ M u_l rfl WT;obtain⟨W9,B⟩:=nam (wr.setCells w.heap.size 0 [vo,.slice fa m h]);rw[<-B]at hG j;have aa:=hyd B;have I:=hyd j;have l:Hid (vo.oneCell'=true):=by rw[c];exact rfl
 have Y:Hid ((Value.slice fa m h).oneCell'=true):=rfl;have p:Hid (FN w vo (.slice fa m h) (Va (alB A) A.N) (YS (alB A) A.N) wr):=S;clear B M j c S t G;go_wp2_with (first|(refine Zb rfl 150 _ rfl (w.heap.size+1) 0 rfl [vo,.slice fa m h] _ ai u_l rfl WT ?_)|(refine Za rfl 150 _ _ rfl w.heap.size 0 #[vo,.slice fa m h] rfl rfl r WT (by simp[l.out,Y.out]) ?_;rw[Zc,<-aa.out]));refine Zr (v:=.agg #[vo,.slice fa m h]) (res_load1 Tryz.results67 rfl I.out) rfl ?_;have S:=p.out;refine⟨vo,.slice fa m h,rfl,(S.o.grown hG (λk K e=>?_)).mono (by omega),(S.f.grown hG (λk K e=>?_)).mono (by omega),S.ne,S.b.grown hG S.b.size (λq hq=>by cases hq;exact Zg _)⟩
 ·have:=(S.o.blk k K).1;have:=Zh e;omega
 have:=(S.f.blk k K).1;have:=Zh e;omega
def Xr (K:Nat) (rw:Nat->Nat->Int) (n:Nat):List Int:=(List.range n).map λt=>rw (t/K) (t%K)
theorem KR (K:Nat) (rw:Nat->Nat->Int) (n:Nat):Xr K rw (n+1)=Xr K rw n++[rw (n/K) (n%K)]:=by simp[Xr,ZT]
theorem Ot (K:Nat) (rw:Nat->Nat->Int) (n:Nat):(Xr K rw n).length=n:=by simp[Xr]
theorem Qg {s:Nat} (y:k<K):(s*K+k)/K=s/\(s*K+k)%K=k:=by
 have a:0<K:=by omega
 rw[Nat.mul_comm,Nat.mul_add_div a,Nat.div_eq_of_lt y,Nat.add_zero,Nat.mul_add_mod,Nat.mod_eq_of_lt y];exact⟨rfl,rfl⟩
theorem Jl {S s:Nat} (hs:s<S) (y:k<K):(Xr K rw (S*K)).getD (s*K+k) 0=rw s k:=by
 have h:s*K+k<S*K:=by
  have:(s+1)*K<=S*K:=ZQ _ hs;rw[Nat.add_mul]at this;omega
 obtain⟨a,e2⟩:=Qg (s:=s) y;simp[Xr,Zf,h,a,e2]
def Yz (A:Aut) (E:Nat->Nat->Bool) (s k:Nat):Int:=gAt A (idxI E) ((reps E A.N).getD s 0) k
theorem Jk (gb:Nat) (A:Aut) (ta:Option Addr) (tc:Nat) (sv:Value) (E:Nat->N_) (b1 b2:Nat) (vo vf:Value) (w:World) (hA:Aut.Small A) (hr:∀s k,s<A.N->k<A.K->-1<=A.to s k/\A.to s k<A.N) (hG:Gr gb A ta tc sv w) (ho:OwnL b1 vo (Va E A.N) w) (hf:OwnL b2 vf (YS E A.N) w):
  Cp 132 #[pT gb,.agg #[vo,vf]] w λe w'=>∃v,e=.returned v/\OwnL w.heap.size v (Xr A.K (Yz A E) (cnt E A.N*A.K)) w'/\Bl w w':=by
 have hn:=hA.n;have T:=hA.k;have R:=cnt_le E A.N;obtain⟨t,L,J,p⟩:=ho.il;obtain⟨fa,fc,I,d⟩:=hf.il;rw[Xo]at J p;rw[YJ]at I d;subst J;subst I;have h:IL t (idxI E) A.N w:=p.congr (λi hi=>by simp[Va,Zf,hi]);clear p ho hf;obtain⟨c,Q⟩:∃c,c=cnt E A.N:=⟨_,rfl⟩;rw[<-Q]at d R ⊢;have Hc:Hid (c=cnt E A.N):=Q;clear Q;obtain⟨W,M⟩:∃W,W=w.alloc (.cells #[.slice t A.N L,.slice fa c fc] 150):=⟨_,rfl⟩;have x0:Bl w W:=by rw[M];exact box_bel _ _
 have D:TC w.heap.size [.slice t A.N L,.slice fa c fc] W:=by rw[M];exact TC.boxed _ _ _
 have HC:Hid (∀(s k:Nat) (w':World),s<A.N->k<A.K->Bl W w'->Cp 177 #[pT gb,.slice t A.N L,I6 s,I6 k] w' λe w''=>e=.returned (I6 (gAt A (idxI E) s k))/\Bl w' w''):=λs k w' hs hk f=>PK gb A ta tc sv t L (idxI E) s k w' hA hr ((hG.below x0).below f) ((h.below x0).below f) hs hk
 have HK:Hid (∀w',Bl W w'->w'.cell? (a_ gb 0)=some (I6 A.K)):=λw' f=>((hG.below x0).below f).c0
 have HT:Hid (∀w',Bl W w'->w'.cell? (a_ w.heap.size 0)=some (.slice t A.N L)):=λw' f=>(D.below f 0 _ rfl).1
 have HF:Hid (∀w',Bl W w'->IL fa (λi=>(YS E A.N).getD i 0) c w'):=λw' f=>(d.below x0).below f
 have O:=hyd x0;clear hG hA hr h d D x0;go_enter Tryz.func132,Tryz.ntmps132;go_wp2;rw[<-M];clear M
 go_loopw [5,13] (λv x w'=>∃s:Nat,s<=c/\x=I6 s/\OwnL W.heap.size v (Xr A.K (Yz A E) (s*A.K)) w'/\Bl W w') (λ_ x _=>c-(intOf x).toNat)
 ·exact⟨0,by omega,rfl,by rw[Nat.zero_mul];exact OwnL.nil _ _,Zk _ _⟩
 obtain⟨s,hs,rfl,b,a⟩:=hrel;by_cases U:s<c
 ·have ab:(s:Int)<c:=by omega
  obtain⟨r,hr⟩:∃r,(reps E A.N)[s]?=some r:=⟨(reps E A.N)[s]'(by have:=Hc.out;unfold cnt at this;omega),Zd _⟩;have X:=(reps_mem hr).1;have G:(YS E A.N).getD s 0=(r:Int):=by simp[YS,Zf,hr]
  have P:Hid (∀k,Yz A E s k=gAt A (idxI E) r k):=λk=>by unfold Yz;rw[show(reps E A.N).getD s 0=r by simp[Zf,hr]]
  obtain⟨ac,ae,S,c2⟩:=HF.out wr a s U;simp only[G]at c2;subst S;have af:s*A.K<=200*256:=I1 (by omega) T;clear hr G;go_wp2
  go_loopw [5,8] (λv x w'=>∃k:Nat,k<=A.K/\x=I6 k/\OwnL W.heap.size v (Xr A.K (Yz A E) (s*A.K+k)) w'/\Bl W w') (λ_ x _=>A.K-(intOf x).toNat)
  ·exact⟨0,by omega,rfl,b,a⟩
  clear b a c2;obtain⟨k,hk,rfl,b,a⟩:=hrel;have c0:=HK.out wr a;by_cases o:k<A.K
  ·have aa:(k:Int)<(A.K:Int):=by omega
   have c1:=HT.out wr a;go_wp2_with fail;refine(HC.out r k _ X o a).mono ?_;rintro e w1 ⟨rfl,l⟩;have j:=a.trans (l.mono a.size);have z:=b.below l;clear b a c0 c1 l;obtain⟨y,Z⟩:=nam (gAt A (idxI E) r k);rw[<-Z];have Hy:Hid (y=Yz A E s k):=by show _=_;rw[Z,P.out]
   clear Z;have Y:=box_bel w1 (.cells #[I6 y] 3);have B:=z.below Y;have u:=j.trans (Y.mono j.size);have H:=B.blk;have V:(w1.alloc (.cells #[I6 y] 3)).cell? (a_ w1.heap.size 0)=some (I6 y):=by rw[Zm];rfl
   have F:=u.size;clear Y z j;go_wp2_with (first|(at_builtin;refine wpList_append_int (by rfl) _ _ (by rfl) W.heap.size u5 (Xr A.K (Yz A E) (s*A.K+k)) (by rfl) B (by rw[Ot];omega) w1.heap.size y (by rfl) V F _ rfl ?_;intro g cap w5 C m ag ah));have e1:Xr A.K (Yz A E) (s*A.K+k)++[y]=Xr A.K (Yz A E) (s*A.K+(k+1)):=by
    rw[<-ZN,KR,(Qg o).1,(Qg o).2,Hy.out]
   rw[e1]at C;go_roundw
   ·exact⟨k+1,by omega,by go_num,C,u.grown m F (λq hq=>(H q hq).1)⟩
   simp[intOf];omega
  have⟨hge,hkK⟩:¬(k:Int)<(A.K:Int)/\k=A.K:=by omega
  go_wp2;go_roundw
  ·exact⟨s+1,by omega,by go_num,by rw[Nat.add_mul,Nat.one_mul];rw[hkK]at b;exact b,a⟩
  simp[intOf];omega
 have⟨hge,hsc⟩:¬(s:Int)<c/\s=c:=by omega
 go_wp2;go_ret;refine⟨u5,rfl,?_,O.out.trans (a.mono O.out.size)⟩;rw[hsc]at b;exact b.mono O.out.size
def Cl (rw:Nat->Nat->Int) (S:Nat) (a b:Nat):Bool:=(List.range S).all λs=>rw s a==rw s b
theorem UT (rw:Nat->Nat->Int) (S a b:Nat):Cl rw S a b=true<->∀s,s<S->rw s a=rw s b:=by simp[Cl]
theorem Nh (rw:Nat->Nat->Int) (S n:Nat):Eqv (Cl rw S) n:=
 ⟨λa _=>(UT rw S a a).2 (λ_ _=>rfl),λa b _ _ h=>(UT rw S b a).2 (λs hs=>((UT rw S a b).1 h s hs).symm),λa b c _ _ _ h k=>(UT rw S a c).2 (λs hs=>((UT rw S a b).1 h s hs).trans ((UT rw S b c).1 k s hs))⟩
theorem Oz (ra:Option Addr) (rc K S:Nat) (rw:Nat->Nat->Int) (a b:Nat) (w:World) (hK:K<=256) (hS:S<=200) (ha:a<K) (hb:b<K) (hR:IL ra (λi=>(Xr K rw (S*K)).getD i 0) (S*K) w):
  Cp 178 #[.slice ra (S*K) rc,I6 K,I6 a,I6 b] w λe w'=>e=.returned (.bool (Cl rw S a b))/\Bl w w':=by
 obtain⟨R,m⟩:=nam (Cl rw S a b);rw[<-m];have G:Hid (R=true<->∀s,s<S->rw s a=rw s b):=by rw[m];exact UT rw S a b
 clear m;have D:=I1 hS hK;obtain⟨M,C⟩:=nam (S*K);have F:Hid (∀(w':World),Bl w w'->∀s k,s<S->k<K->∃b d,ra=some (a_ b d)/\w'.cell? (a_ b (d+(s*K+k)))=some (I6 (rw s k))):=λw' Q s k hs U=>by
  have V:s*K+k<S*K:=by
   have:(s+1)*K<=S*K:=ZQ _ hs;rw[Nat.add_mul]at this;omega
  obtain⟨b,d,e,H⟩:=(hR.below Q) (s*K+k) V;simp only[Jl hs U]at H;exact⟨b,d,e,H⟩
 have n:=hyd C;rw[<-C]at D ⊢;clear C hR;go_enter Tryz.func178,Tryz.ntmps178;go_wp2
 go_loopw [9] (λx w'=>∃s p:Nat,s<=S/\x=I6 p/\Hid (p=s*K)/\p<=M/\Bl w w'/\Hid (∀j,j<s->rw j a=rw j b)) (λx _=>M-(intOf x).toNat)
 ·exact⟨0,0,by omega,rfl,by show _=_;simp,by omega,Zk _ _,λj I=>by omega⟩
 obtain⟨s,p,hs,rfl,f,W,o,y⟩:=hrel;by_cases c:s<S
 ·have E:s*K+K<=S*K:=by
   have:(s+1)*K<=S*K:=ZQ _ c;rw[Nat.add_mul]at this;omega
  have J:(p:Int)<M:=by have:=f.out;have:=n.out;omega
  obtain⟨L,q⟩:=nam (p+a);obtain⟨N,r⟩:=nam (p+b);obtain⟨v,t⟩:=nam (p+K);have Y:(p:Int)+(a:Int)=(L:Int):=by omega
  have⟨i2,i3⟩:(p:Int)+(b:Int)=(N:Int)/\(p:Int)+(K:Int)=(v:Int):=by omega
  have Z:(L:Int)<M:=by have:=f.out;have:=n.out;omega
  have l2:(N:Int)<M:=by have:=f.out;have:=n.out;omega
  have X:v<=M:=by have:=f.out;have:=n.out;omega
  have l4:p<v:=by omega
  obtain⟨g1,o1,u,c1⟩:=F.out wr o s a c ha;obtain⟨g2,o2,h,c2⟩:=F.out wr o s b c hb;have A:Hid (v=(s+1)*K):=by show _=_;rw[Nat.add_mul,t,f.out];omega
  rw[<-f.out,<-q]at c1;rw[<-f.out,<-r]at c2;rw[u]at h;cases h;subst u;clear q r t E;by_cases g:rw s a=rw s b
  ·have B:(rw s a==rw s b)=true:=by simpa using g
   have e2:(rw s a != rw s b)=false:=by simp[g]
   have z:Hid (∀j,j<s+1->rw j a=rw j b):=λj I=>by
    by_cases P:j=s
    ·subst P;exact g
    exact y j (by omega)
   clear g y;go_wp2
   go_quiet (fail)
   go_wp2;go_roundw
   ·exact⟨s+1,v,by omega,by go_num,A,X,o.trans (WL _ _ _),z⟩
   simp[intOf];omega
  have B:(rw s a==rw s b)=false:=by simpa using g
  have e2:(rw s a != rw s b)=true:=by simp[g]
  have l:Hid (R=false):=by
   show _=_;cases hR:R
   ·rfl
   exact absurd (G.out.1 hR s c) g
  clear g y;go_wp2
  go_quiet (fail)
  go_wp2;go_ret;exact⟨YN l.out.symm,o.trans (WL _ _ _)⟩
 have T:¬(p:Int)<M:=by
  have B:=f.out;have e2:=n.out;have O:s=S:=by omega
  rw[O,<-e2]at B;omega
 have l:=hyd (G.out.2 (λj I=>y.out j (by omega)));go_wp2;go_ret;exact⟨YN l.out.symm,o⟩
structure CN (w:World) (vo vf:Value) (lo lf:List Int) (W:World):Prop where
 o:OwnL w.heap.size vo lo W
 f:OwnL w.heap.size vf lf W
 ne:∀k,vo.ownBlock=some k->vf.ownBlock≠some k
 b:Below w.heap.size w W
theorem CN.below {lo:List Int} (h:CN w vo vf lo lf W) (hW:Bl W W'):CN w vo vf lo lf W':=
 ⟨h.o.below hW,h.f.below hW,h.ne,h.b.trans (hW.mono h.b.size)⟩
theorem CN.putF {w:World}{vo vf:Value}{lo lf lf':List Int}{W W1 w5:World}{n g cap:Nat}{ob:Obj} (h:CN w vo vf lo lf W) (hW1:W1=W.alloc ob)
  (h5:OwnL w.heap.size (sL g n cap) lf' w5) (hg:W1.grownBy w5 vf.ownBlock) (hgb:vf.ownBlock=some g\/g=W1.heap.size):CN w vo (sL g n cap) lo lf' w5:=by
 have x1:Bl W W1:=by rw[hW1];exact box_bel _ _
 have j:W1.heap.size=W.heap.size+1:=by rw[hW1];simp
 have k1:=h.below x1;have c:=h.f.blk;refine⟨k1.o.grown hg (λk a e=>h.ne k a e),h5,?_,k1.b.grown hg k1.b.size (λq i=>(c q i).1)⟩;intro k a e;have e2:g=k:=Zh e;have d:=h.o.blk k a;rcases hgb with h1|h1
 ·rw[e2]at h1;exact h.ne k a h1
 omega
theorem CN.putO {w:World}{vo vf:Value}{lo lf lo':List Int}{W W1 w5:World}{n g cap:Nat}{ob:Obj} (h:CN w vo vf lo lf W) (hW1:W1=W.alloc ob)
  (h5:OwnL w.heap.size (sL g n cap) lo' w5) (hg:W1.grownBy w5 vo.ownBlock) (hgb:vo.ownBlock=some g\/g=W1.heap.size):CN w (sL g n cap) vf lo' lf w5:=by
 have x1:Bl W W1:=by rw[hW1];exact box_bel _ _
 have j:W1.heap.size=W.heap.size+1:=by rw[hW1];simp
 have k1:=h.below x1;have a:=h.o.blk;refine⟨h5,k1.f.grown hg (λk c e=>h.ne k e c),?_,k1.b.grown hg k1.b.size (λq i=>(a q i).1)⟩;intro k c e;have e2:g=k:=Zh c;have d:=h.f.blk k e;rcases hgb with h1|h1
 ·rw[e2]at h1;exact h.ne k h1 e
 omega
def FU (E:Nat->Nat->Bool) (n:Nat) (w:World) (e:Ending) (w':World):Prop:=
 ∃vo vf,e=.returned (.tuple #[vo,vf])/\OwnL w.heap.size vo (Va E n) w'/\OwnL w.heap.size vf (YS E n) w'/\Below w.heap.size w w'
theorem MH (ra:Option Addr) (rc K S:Nat) (rw:Nat->Nat->Int) (w:World) (hK:K<=256) (hS:S<=200) (hR:IL ra (λi=>(Xr K rw (S*K)).getD i 0) (S*K) w):
  Cp 133 #[.slice ra (S*K) rc,.int .i64 K] w (FU (Cl rw S) K w):=by
 have HC:Hid (∀(a b:Nat) (w':World),a<K->b<K->Bl w w'->Cp 178 #[.slice ra (S*K) rc,.int .i64 K,.int .i64 a,.int .i64 b] w' λe w''=>e=.returned (.bool (Cl rw S a b))/\Bl w' w''):=λa b w' ha hb h'=>Oz ra rc K S rw a b w' hK hS ha hb (hR.below h')
 have HE:=hyd (Nh rw S K);obtain⟨M,hM⟩:=nam (S*K);rw[<-hM]at HC ⊢;clear hR hM;generalize Cl rw S=E at *;go_enter Tryz.func133,Tryz.ntmps133;go_wp2
 go_loopw [6,7,8] (λvo vf x w'=>∃a:Nat,a<=K/\x=.int .i64 a/\CN w vo vf (Va E a) (YS E a) w') (λ_ _ x _=>K-(intOf x).toNat)
 ·exact⟨0,by omega,rfl,OwnL.nil _ _,OwnL.nil _ _,λk hk=>(by cases hk),Zk _ _⟩
 obtain⟨a,ha,rfl,S1⟩:=hrel;by_cases H:a<K
 ·have aq:(a:Int)<K:=by omega
  obtain⟨fa,X,an,_⟩:=S1.f.il;obtain⟨L,vc,ao,_⟩:=S1.o.il;subst an;subst ao;rw[YJ]at S1;rw[Xo]at S1;have d:=rep_new HE H;have af:=cnt_le E a;obtain⟨id,F⟩:=nam (idx E a);rw[<-F]at d;have m:=hyd F;clear F;rw[YJ,Xo];obtain⟨c,hc⟩:=nam (cnt E a);have Hc:=hyd hc;rw[<-hc]at d af S1 ⊢;clear hc;have l:=hyd d.1;have U:=d.2;clear d;go_wp2
  go_loopw [9] (λx w'=>∃j:Nat,j<=id/\x=.int .i64 j/\CN w (.slice L a vc) (.slice fa c X) (Va E a) (YS E a) w') (λx _=>c-(intOf x).toNat)
  ·exact⟨0,by omega,rfl,S1⟩
  clear S1;obtain⟨j,hj,rfl,S1⟩:=hrel;by_cases ai:j<c
  ·have ap:(j:Int)<c:=by omega
   obtain⟨r,Y⟩:∃r,(reps E a)[j]?=some r:=⟨(reps E a)[j]'(by have:=Hc.out;unfold cnt at this;omega),Zd _⟩;have am:=reps_mem Y;have G:=rep_like HE.out H Y;rw[<-m.out]at G;obtain⟨ar,P,V,J⟩:=S1.f.il;have W:=(Value.slice.inj V).1;rw[<-W]at J;obtain⟨au,av,ag,c2⟩:=J j (by rw[YJ,<-Hc.out];exact ai);subst ag;have T:(YS E a).getD j 0=(r:Int):=by simp[YS,Zf,Y]
   simp only[T]at c2;have s:=hyd (HC r a wr (by omega) H S1.b);have O:=hyd G;clear G Y am V J T W;go_wp2_with fail;refine s.out.mono ?_;rintro e w2 ⟨rfl,Q⟩;have S2:=S1.below Q;clear S1 c2 s Q;cases hE:E r a
   ·have ax:j≠id:=λe=>by have:=O.out.2 e;rw[hE]at this;cases this
    go_wp2;go_roundw
    ·exact⟨j+1,by omega,by go_num,S2⟩
    simp[intOf];omega
   have aj:=O.out.1 hE;subst aj;have u:least E a≠a:=λe=>by have:=l.out.2 e;omega
   have q1:((j:Int)==(c:Int))=false:=by simp;omega
   have p:=box_bel w2 (.cells #[.int .i64 (j:Int)] 3);have z:=S2.o.below p;have I:(w2.alloc (.cells #[.int .i64 (j:Int)] 3)).cell? (a_ w2.heap.size 0)=some (.int .i64 (j:Int)):=by rw[Zm];rfl
   have B:=ZJ S2.b.size p.size;have y:=hyd S2;have n:=hyd u;clear S2 p u;go_wp2_with (first|(at_builtin;refine wpList_append_int (by rfl) _ _ (by rfl) w.heap.size (.slice L a vc) (Va E a) (by rfl) z (by rw[Xo];omega) w2.heap.size (j:Int) (by rfl) I B _ rfl ?_;intro g cap w5 A h D ak));have S3:=y.out.putO rfl A h D;have e1:Va E a++[(j:Int)]=Va E (a+1):=by rw[Q3];unfold idxI;rw[<-m.out]
   have e2:YS E (a+1)=YS E a:=by rw[Ww,if_neg n.out,List.append_nil]
   rw[e1,<-e2]at S3;go_roundw
   ·exact⟨a+1,by omega,by go_num,S3⟩
   simp[intOf];omega
  have⟨hjc2,hic⟩:c=j/\id=c:=by omega
  have t:=l.out.1 hic;have Z:=hyd hic;clear hic hj U l;subst hjc2;have ah:¬(c:Int)<c:=by omega
  have q1:((c:Int)==(c:Int))=true:=by simp
  have p:=box_bel wr (.cells #[.int .i64 (a:Int)] 3);have z:=S1.f.below p;have I:(wr.alloc (.cells #[.int .i64 (a:Int)] 3)).cell? (a_ wr.heap.size 0)=some (.int .i64 (a:Int)):=by rw[Zm];rfl
  have B:=ZJ S1.b.size p.size;have y:=hyd S1;have n:=hyd t;have C:=YJ E a;rw[<-Hc.out]at C;have N:=hyd C;have HX:Hid (∀g cap w5,OwnL w.heap.size (sL g (c+1) cap) (YS E a++[(a:Int)]) w5->(wr.alloc (.cells #[.int .i64 (a:Int)] 3)).grownBy w5 (Value.slice fa c X).ownBlock->((Value.slice fa c X).ownBlock=some g\/g=(wr.alloc (.cells #[.int .i64 (a:Int)] 3)).heap.size) ->
    CN w (.slice L a vc) (sL g (c+1) cap) (Va E a) (YS E a++[(a:Int)]) w5):=λg cap w5 h1 h2 h3=>y.out.putF rfl h1 h2 h3
  have aa:Hid (∀(v:Value) (w5:World),CN w (.slice L a vc) v (Va E a) (YS E a++[(a:Int)]) w5 ->
    OwnL w.heap.size (.slice L a vc) (Va E a) (w5.alloc (.cells #[.int .i64 (c:Int)] 3))/\(w5.alloc (.cells #[.int .i64 (c:Int)] 3)).cell? (a_ w5.heap.size 0)=some (.int .i64 (c:Int))/\w.heap.size<=(w5.alloc (.cells #[.int .i64 (c:Int)] 3)).heap.size):=λv w5 hF=>by
   have p:=box_bel w5 (.cells #[.int .i64 (c:Int)] 3);exact⟨hF.o.below p,by rw[Zm];rfl,ZJ hF.b.size p.size⟩
  clear S1 p t C;go_wp2_with (first|(at_builtin;refine wpList_append_int (by rfl) _ _ (by rfl) w.heap.size (.slice fa c X) (YS E a) (by rfl) z (by rw[N.out];omega) wr.heap.size (a:Int) (by rfl) I B _ rfl ?_;rw[N.out];intro g cap w5 A h D ak;have S5:=HX.out g cap w5 A h D;obtain⟨ab,al,ae⟩:=aa.out _ w5 S5)|(at_builtin;refine wpList_append_int (by rfl) _ _ (by rfl) w.heap.size (.slice L a vc) (Va E a) (by rfl) ab (by rw[Xo];omega) w5.heap.size (c:Int) (by rfl) al ae _ rfl ?_;intro g2 P w7 ac q R aw));have S7:=S5.putO rfl ac q R;have e1:Va E a++[(c:Int)]=Va E (a+1):=by rw[Q3];unfold idxI;rw[<-m.out,Z.out]
  have e2:YS E a++[(a:Int)]=YS E (a+1):=by rw[Ww,if_pos n.out]
  rw[e1,e2]at S7;go_roundw
  ·exact⟨a+1,by omega,by go_num,S7⟩
  simp[intOf];omega
 have⟨ah,haN⟩:¬(a:Int)<K/\a=K:=by omega
 subst haN;go_wp2;go_ret2;exact⟨u6,u7,rfl,S1.o,S1.f,S1.b⟩
def HS (ha:Option Addr) (hs:Nat->Nat->Bool) (P:Nat) (w:World):Prop:=∀p b,p<P->b<256->∃blk off,ha=some ⟨blk,off,none⟩/\w.cell? ⟨blk,off+p*256+b,none⟩=some (.bool (hs p b))
theorem HS.below (h:HS ha hs P w) (y:Bl w w'):HS ha hs P w':=λp b f d=>by
 obtain⟨blk,a,e,c⟩:=h p b f d;refine⟨blk,a,e,?_⟩;rw[y.cell (p:=(a_ blk (a+p*256+b))) (Ze w _ c)];exact c
def Kq (hs:Nat->Nat->Bool) (P:Nat) (a b:Nat):Bool:=(List.range P).all λp=>hs p a==hs p b
theorem UU (hs:Nat->N_) (P a b:Nat):Kq hs P a b=true<->∀p,p<P->hs p a=hs p b:=by simp[Kq]
theorem TE (hs:Nat->N_) (P n:Nat):Eqv (Kq hs P) n:=
 ⟨λa _=>(UU hs P a a).2 (λ_ _=>rfl),λa b _ _ h=>(UU hs P b a).2 (λs d=>((UU hs P a b).1 h s d).symm),λa b c _ _ _ h k=>(UU hs P a c).2 (λs d=>((UU hs P a b).1 h s d).trans ((UU hs P b c).1 k s d))⟩
theorem Na (nb:Nat) (ha:Option Addr) (Y P:Nat) (hs:Nat->N_) (a b:Nat) (w:World) (Z:P<=96) (H:w.cell? (a_ nb 0)=some (.slice ha P Y)) (J:HS ha hs P w) (h1:a<256) (h2:b<256):
  Cp 127 #[pT nb,.int .u8 a,.int .u8 b] w λe w'=>e=.returned (.bool (!Kq hs P a b))/\Bl w w':=by
 obtain⟨R,g⟩:=nam (!Kq hs P a b);rw[<-g];have q:Hid (R=false<->∀p,p<P->hs p a=hs p b):=by
  show _<->_;rw[g];have:=UU hs P a b;simpa using this
 clear g;have u:Hid (∀w',Bl w w'->w'.cell? (a_ nb 0)=some (.slice ha P Y)):=λw' n=>by
  rw[n.cell (p:=(a_ nb 0)) (Ze w _ H)];exact H
 have o:Hid (∀w',Bl w w'->HS ha hs P w'):=λw' n=>J.below n
 have⟨h1',h2'⟩:(a:Int)<256/\(b:Int)<256:=by omega
 clear J H;go_enter Tryz.func127,Tryz.ntmps127;go_wp2
 go_loopw [7] (λx w'=>∃p:Nat,p<=P/\x=I6 p/\Bl w w'/\Hid (∀j,j<p->hs j a=hs j b)) (λx _=>P-(intOf x).toNat)
 ·exact⟨0,by omega,rfl,Zk _ _,λj s=>by omega⟩
 obtain⟨p,C,rfl,f,l⟩:=hrel;have c0:=u.out wr f;by_cases d:p<P
 ·have t:(p:Int)<P:=by omega
  obtain⟨g1,D,r,k1⟩:=o.out wr f p a d h1;obtain⟨g2,E,e2,A⟩:=o.out wr f p b d h2;rw[r]at e2;cases e2;subst r;obtain⟨x,i⟩:=nam (hs p a);obtain⟨y,k⟩:=nam (hs p b);rw[<-i]at k1;rw[<-k]at A;by_cases h:x=y
  ·have m:Hid (∀j,j<p+1->hs j a=hs j b):=λj s=>by
    by_cases v:j=p
    ·subst v;rw[<-i,<-k];exact h
    exact l j (by omega)
   subst h;clear l i k;go_wp2
   go_quiet (fail)
   have B:(x==x)=true:=by simp
   go_wp2;go_roundw
   ·exact⟨p+1,by omega,by go_num,f.trans (WL _ _ _),m⟩
   simp[intOf];omega
  have c:Hid (R=true):=by
   show _=_;cases g:R
   ·exact absurd (by rw[i,k];exact q.out.1 g p d) h
   rfl
  have B:(x==y)=false:=by simpa using h
  clear l i k h;go_wp2
  go_quiet (fail)
  go_wp2;go_ret;exact⟨YN c.out.symm,f.trans (WL _ _ _)⟩
 have z:¬(p:Int)<P:=by omega
 have c:=hyd (q.out.2 (λj s=>l.out j (by omega)));go_wp2;go_ret;exact⟨YN c.out.symm,f⟩
def BS (l:List Nat):List Value:=l.map λ(x:Nat)=>.int .u8 (x:Int)
def VS (base:Nat) (v:Value) (l:List Nat) (w:World):Prop:=w.ownsRow base 5 1 v l.length (BS l)
theorem VS.nil (base:Nat) (w:World):VS base (sN) [] w:=⟨rfl,Or.inl ⟨rfl,rfl⟩⟩
theorem VS.blk {l:List Nat} (h:VS base v l w):∀k,v.ownBlock=some k->base<=k/\k<w.heap.size:=λk a=>h.lt k a
theorem VS.keep {l:List Nat} (h:VS base v l w) (y:∀k,v.ownBlock=some k->w'.heap[k]?=w.heap[k]?):VS base v l w':=by
 refine⟨h.1,?_⟩;rcases h.2 with h0|⟨g,cap,a,rfl,h1,h2,h3⟩
 ·exact Or.inl h0
 exact Or.inr ⟨g,cap,a,rfl,h1,by rw[y g rfl];exact h2,h3⟩
theorem VS.below {l:List Nat} (h:VS base v l w) (y:Bl w w'):VS base v l w':=h.keep (λk a=>y.block k (h.blk k a).2)
theorem VS.mono {l:List Nat} (h:VS base v l w) (y:base'<=base):VS base' v l w:=
 ⟨h.1,h.2.imp id (λ⟨g,cap,d,a,b,c⟩=>⟨g,cap,d,a,ZJ y b,c⟩)⟩
theorem VS.grown {l:List Nat} (h:VS base v l w) (z:w.grownBy w' row) (y:∀k,v.ownBlock=some k->row≠some k):VS base v l w':=
 h.keep (λk a=>z.block k (h.blk k a).2 (λe=>y k a e.symm))
theorem VS.at_ {l:List Nat} (h:VS base v l w):∃ad cap,v=.slice ad l.length cap/\∀(i x:Nat),l[i]?=some x->∃g,ad=some (a_ g 0)/\w.cell? (a_ g i)=some (.int .u8 (x:Int)):=by
 rcases h.2 with ⟨rfl,h0⟩|⟨g,cap,c,rfl,h1,h2,h3,d,e,f⟩
 ·refine⟨none,0,by rw[h0],λi x a=>?_⟩;have j:=(Zi.1 a).1;omega
 refine⟨some (a_ g 0),cap,rfl,λi x a=>⟨g,rfl,?_⟩⟩;have b:=h.cells (g:=g) rfl i (.int .u8 (x:Int)) (by simp[BS,a]);rw[Addr.add_lit,Zn]at b;exact b
theorem QB (hgd:o.guard=none) (s x:Operand)
  (ho:o.op=.call { callee:=.builtin .append,args:=#[s,x],argTypes:=#[99,99] }) (base:Nat)
  (v:Value) (l:List Nat) (hs:a.eval s=v) (hown:VS base v l w) (hn:l.length<=1000000)
  (B:Nat) (t:Nat) (hx:a.eval x=sL B 1 1) (hnews:w.cell? (a_ B 0)=some (.int .u8 (t:Int))) (hbase:base<=w.heap.size) (H:Nat) (hH:w.heap.size=H)
  (h:∀g cap w',VS base (sL g (l.length+1) cap) (l++[t]) w'->w.grownBy w' v.ownBlock->(v.ownBlock=some g\/g=H)->g<w'.heap.size->wpList Tryz.prog ops Q rest (a.put o.dst (sL g (l.length+1) cap)) w'):wpList Tryz.prog ops Q (o::rest) a w:=by
 obtain⟨i,k,c,d,e⟩:=Sq;refine wpList_append_lies w hgd s x 99 ho base 5 i (.int .u8 0) 1 1 u_e k c d e rfl (by omega) v l.length (BS l) hs hown (a_ B 0) 1 1 [.int .u8 (t:Int)] hx rfl (λj u b=>?_) (by simp[Value.oneCell']) (by omega) (by unfold maxLen;omega) (by omega) hbase H hH ?_
 ·rw[Addr.add_lit,Zn];cases j with
  |zero=>simp at b;subst b;exact hnews
  |succ j=>simp at b
 intro g cap w' h1 h2 h3 f;refine h g cap w' ?_ h2 h3 f;unfold VS;rw[Zl];simp only[BS,List.map_append];exact h1
def Yj (f:Nat->Int) (v:Value):List Value:=(List.range 256).map (λi=>.int .i64 (f i))++[v]
theorem Xl (f:Nat->Int) (v:Value):(Yj f v).length=257:=by simp[Yj]
theorem VY (f:Nat->Int) (v:Value) (i:Nat) (h:i<256):(Yj f v)[i]?=some (I6 (f i)):=by
 unfold Yj;rw[Zv (by simpa using h)];simp[h]
theorem Wy (f:Nat->Int) (v:Value):(Yj f v)[256]?=some v:=by
 unfold Yj;rw[ZG (by simp)];simp
theorem OY (w:World):(zeroValue 142).run Tryz.prog w=.ok (.agg (Yj (λ_=>0) (sN)).toArray) w:=by kernel_rfl
theorem TQ:(Tryz.prog.info? 142).map (·.size)=some 257:=by kernel_rfl
structure KN (w:World) (f:Nat->Int) (vl:Value) (l:List Nat) (W:World):Prop where
 z:TC w.heap.size (Yj (fun _=>0) (.slice none 0 0)) W
 s:TC (w.heap.size+1) (Yj f vl) W
 l:VS (w.heap.size+2) vl l W
 b:Below w.heap.size w W
theorem Bm.TC.ltK {f:Nat->Int} (h:TC t (Yj f v) w):t<w.heap.size:=Ze w _ (h 0 _ (VY f v 0 (by omega))).1
theorem Bm.TC.belowK {f:Nat->Int} (h:TC t (Yj f v) w) (y:Bl w w'):TC t (Yj f v) w':=h.block (y.block t h.ltK)
theorem KN.size {f:Nat->Int}{l:List Nat} (h:KN w f vl l W):w.heap.size+2<=W.heap.size:=by have:=h.s.ltK;omega
theorem KN.below {f:Nat->Int}{l:List Nat} (h:KN w f vl l W) (y:Bl W W'):KN w f vl l W':=
 ⟨h.z.belowK y,h.s.belowK y,h.l.below y,h.b.trans (y.mono h.b.size)⟩
theorem IX (f:Nat->Int) (v:Value) (i:Nat) (x:Int) (h:i<256):(Yj f v).set i (I6 x)=Yj (λj=>if j=i then x else f j) v:=by
 refine List.ext_getElem? (λj=>?_);by_cases e:j=i
 ·subst e;rw[List.getElem?_set_self (by rw[Xl];omega),VY _ _ _ h];simp
 rw[List.getElem?_set_ne (λh=>e h.symm)];rcases ZD j 256 with a|a
 ·rw[VY _ _ _ a,VY _ _ _ a];simp[e]
 by_cases b:j=256
 ·subst b;rw[Wy,Wy]
 rw[ZB (by rw[Xl];omega),ZB (by rw[Xl];omega)]
theorem Kf (f:Nat->Int) (v u:Value):(Yj f v).set 256 u=Yj f u:=by
 unfold Yj;rw[List.set_append_right _ _ (by simp)];simp
theorem KN.put {f:Nat->Int}{l:List Nat} (h:KN w f vl l W) (i:Nat) (y:i<256) (x:Int):KN w (λj=>if j=i then x else f j) vl l (W.setCell (a_ (w.heap.size+1) i) (I6 x)):=by
 have c:∀k,k≠w.heap.size+1->(W.setCell (a_ (w.heap.size+1) i) (I6 x)).heap[k]?=W.heap[k]?:=λk a=>Zq W (a_ (w.heap.size+1) i) _ k (λe=>a e)
 refine⟨h.z.block (c _ (by omega)),?_,h.l.keep (λk a=>c k (by have:=(h.l.blk k a).1;omega)),h.b.setCell (p:=(a_ (w.heap.size+1) i)) (Nat.le_succ _) _⟩;rw[<-IX f vl i x y];exact h.s.set i (by rw[Xl];omega) _
theorem KN.putL {f:Nat->Int}{l Y:List Nat} (h:KN w f vl l W) (y:W1=W.alloc ob)
  (J:VS (w.heap.size+2) (sL g n cap) Y w5) (H:W1.grownBy w5 vl.ownBlock):
  KN w f (sL g n cap) Y (w5.setCell (a_ (w.heap.size+1) 256) (sL g n cap)):=by
 have hs:=h.size;have x1:Bl W W1:=by rw[y];exact box_bel _ _
 have m:W1.heap.size=W.heap.size+1:=by rw[y];simp
 have k1:=h.below x1;have d:∀k,k≠w.heap.size+1->(w5.setCell (a_ (w.heap.size+1) 256) (sL g n cap)).heap[k]?=w5.heap[k]?:=λk c=>Zq w5 (a_ (w.heap.size+1) 256) _ k (λe=>c e)
 have a:=h.l.blk;have i:=(J.blk g rfl).1;refine⟨?_,?_,?_,?_⟩
 ·refine(k1.z.block (H.block _ (by omega) (λe=>?_))).block (d _ (by omega));have:=(a _ e.symm).1;omega
 ·rw[<-Kf f vl];exact(k1.s.block (H.block _ (by omega) (λe=>by have:=(a _ e.symm).1;omega))).set 256 (by rw[Xl];omega) _
 ·exact J.keep (λk c=>d k (by cases c;show g≠_;omega))
 exact(k1.b.grown H (by omega) (λq j=>by have:=(a q j).1;omega)).setCell (p:=(a_ (w.heap.size+1) 256)) (Nat.le_succ _) _
def JB (E:Nat->Nat->Bool) (w:World) (e:Ending) (w':World):Prop:=
 ∃(f:Nat->Int) (vl:Value),e=.returned (.agg (Yj f vl).toArray)/\(∀b,b<256->f b=idxI E b)/\VS w.heap.size vl (reps E 256) w'/\Below w.heap.size w w'
theorem Kj (nb:Nat) (ha:Option Addr) (hc P:Nat) (hs:Nat->N_) (w:World) (hP:P<=96) (aG:w.cell? (a_ nb 0)=some (.slice ha P hc)) (hH:HS ha hs P w):
  Cp 65 #[pT nb] w (JB (Kq hs P) w):=by
 have hz:=OY;have HC:Hid (∀(a b:Nat) (w':World),a<256->b<256->Bl w w'->Cp 127 #[pT nb,.int .u8 a,.int .u8 b] w' λe w''=>e=.returned (.bool (!Kq hs P a b))/\Bl w' w''):=λa b w' h1 h2 h'=>Na nb ha hc P hs a b w' hP (by rw[h'.cell (p:=(a_ nb 0)) (Ze w _ aG)];exact aG) (hH.below h') h1 h2
 have HE:=hyd (TE hs P 256);clear aG hH hP;generalize Kq hs P=E at *;obtain⟨W,hW⟩:=nam ((w.alloc (.cells (Yj (λ_=>0) (sN)).toArray 142)).alloc (.cells (Yj (λ_=>0) (sN)).toArray 142));have S0:KN w (λ_=>0) (sN) [] W:=by
  have aq:(w.alloc (.cells (Yj (λ_=>0) (sN)).toArray 142)).heap.size=w.heap.size+1:=by simp
  rw[hW];refine⟨(TC.boxed w (Yj (λ_=>0) (sN)) _).belowK (box_bel _ _),?_,VS.nil _ _,(box_bel w _).trans ((box_bel _ _).mono (by simp))⟩;rw[<-aq];exact TC.boxed _ (Yj (λ_=>0) (sN)) _
 go_enter Tryz.func65,Tryz.ntmps65;go_wp2;rw[<-hW];clear hW
 go_loopw [4] (λx w'=>∃(a:Nat) (f:Nat->Int) (vl:Value),a<=256/\x=I6 a/\Hid (∀b,b<a->f b=idxI E b)/\KN w f vl (reps E a) w') (λx _=>256-(intOf x).toNat)
 ·exact⟨0,_,_,by omega,rfl,λb hb=>by omega,S0⟩
 clear S0;obtain⟨a,f,vl,ha,rfl,HF,S1⟩:=hrel;by_cases h:a<256
 ·have aw:(a:Int)<256:=by omega
  obtain⟨va,vc,ar,_⟩:=S1.l.at_;subst ar;have d:=rep_new HE h;have ak:=cnt_le E a;obtain⟨id,I⟩:=nam (idx E a);rw[<-I]at d;have m:=hyd I;clear I;obtain⟨c,u⟩:=nam (cnt E a);have Hc:=hyd u;have H:(reps E a).length=c:=by rw[u];rfl
  rw[H]at S1;rw[<-u]at d ak;have F:=hyd H;clear u H;have i:=hyd d.1;have T:=d.2;clear d;go_wp2
  go_loopw [6] (λx w'=>∃j:Nat,j<=id/\x=I6 j/\KN w f (.slice va c vc) (reps E a) w') (λx _=>c-(intOf x).toNat)
  ·exact⟨0,by omega,rfl,S1⟩
  clear S1;obtain⟨j,hj,rfl,S1⟩:=hrel;have c1:=(S1.s 256 _ (Wy _ _)).1;by_cases aD:j<c
  ·have av:(j:Int)<c:=by omega
   obtain⟨r,hr⟩:∃r,(reps E a)[j]?=some r:=⟨(reps E a)[j]'(by have:=F.out;omega),Zd _⟩;have ap:=reps_mem hr;have J:=rep_like HE.out h hr;rw[<-m.out]at J;obtain⟨ax,au,Y,K⟩:=S1.l.at_;have Z:=(Value.slice.inj Y).1;rw[<-Z]at K;obtain⟨aB,al,c2⟩:=K j r hr;subst al;have y:=hyd (HC.out r a wr (by omega) h S1.b);have N:=hyd J;clear J hr ap Y K Z;go_wp2_with fail;refine y.out.mono ?_;rintro e w2 ⟨rfl,S⟩;have S2:=S1.below S;clear S1 c1 c2 y S;cases hE:E r a
   ·have aF:j≠id:=λe=>by have:=N.out.2 e;rw[hE]at this;cases this
    go_wp2;go_roundw
    ·exact⟨j+1,by omega,by go_num,S2⟩
    simp[intOf];omega
   have an:=N.out.1 hE;subst an;have B:least E a≠a:=λe=>by have:=i.out.2 e;omega
   have q1:((j:Int)==(c:Int))=false:=by simp;omega
   have c1:=(S2.s 256 _ (Wy _ _)).1;obtain⟨c5,ay⟩:=S2.s a _ (VY _ _ _ h);have S3:=S2.put a h (j:Int);have e2:reps E (a+1)=reps E a:=by rw[reps_succ,if_neg B,List.append_nil]
   rw[<-e2]at S3;have C:Hid (∀b,b<a+1->(if b=a then (j:Int) else f b)=idxI E b):=λb hb=>by
    by_cases Q:b=a
    ·subst Q;simp[idxI,<-m.out]
    simp[Q];exact HF b (by omega)
   have af:=hyd S3;clear S2 S3 B e2;go_wp2;go_roundw
   ·exact⟨a+1,_,_,by omega,by go_num,C,af⟩
   simp[intOf];omega
  have⟨hjc2,hic⟩:c=j/\id=c:=by omega
  have A:=i.out.1 hic;have aa:=hyd hic;clear hic hj T i;subst hjc2;have am:¬(c:Int)<c:=by omega
  have q1:((c:Int)==(c:Int))=true:=by simp
  have hx:=box_bel wr (.cells #[.int .u8 (a:Int)] 5);have ah:=S1.l.below hx;have ao:(wr.alloc (.cells #[.int .u8 (a:Int)] 5)).cell? (a_ wr.heap.size 0)=some (.int .u8 (a:Int)):=by rw[Zm];rfl
  have aj:=ZJ S1.size hx.size;have HK:Hid (∀w5,(wr.alloc (.cells #[.int .u8 (a:Int)] 5)).grownBy w5 (Value.slice va c vc).ownBlock->TC (w.heap.size+1) (Yj f (.slice va c vc)) w5):=λw5 hg=>
   (S1.s.belowK hx).block (hg.block _ (by have:=S1.size;have:=hx.size;omega) (λe=>by have:=(S1.l.blk _ e.symm).1;omega))
  have ae:=hyd S1;have O:=hyd A;clear S1 hx A;go_wp2_with (first|(at_builtin;refine QB (by rfl) _ _ (by rfl) (w.heap.size+2) (.slice va c vc) (reps E a) (by rfl) ah (by rw[F.out];omega) wr.heap.size a (by rfl) ao aj _ rfl ?_;rw[F.out];intro g cap w5 ai o aC aE;obtain⟨c6,az⟩:=HK.out w5 o 256 _ (Wy _ _);have S5:=ae.out.putL rfl ai o;obtain⟨c7,aA⟩:=S5.s a _ (VY _ _ _ h)));have S6:=S5.put a h (c:Int);have e2:reps E a++[a]=reps E (a+1):=by rw[reps_succ,if_pos O.out]
  rw[e2]at S6;have C:Hid (∀b,b<a+1->(if b=a then (c:Int) else f b)=idxI E b):=λb hb=>by
   by_cases Q:b=a
   ·subst Q;simp[idxI,<-m.out,aa.out]
   simp[Q];exact HF b (by omega)
  go_roundw
  ·exact⟨a+1,_,_,by omega,by go_num,C,S6⟩
  simp[intOf];omega
 have⟨am,haN⟩:¬(a:Int)<256/\a=256:=by omega
 subst haN;have V:=S1.s.range;have X:wr.there w.heap.size 0 257:=by have:=S1.z.there;rw[Xl]at this;exact this
 obtain⟨L,R⟩:=nam (Yj f vl);have t:L.length=257:=by rw[R];exact Xl _ _
 rw[<-R]at V;have hG:=Y8 w.heap.size L 0 wr;have U:=Zo wr w.heap.size 0 L (by rw[t];exact X);have n:=ZF (P:=Tryz.prog) (wr.setCells w.heap.size 0 L) w.heap.size 0 142 L _ U Tryz.underlying142 rfl (by rw[t];exact TQ);obtain⟨W9,G⟩:=nam (wr.setCells w.heap.size 0 L);rw[<-G]at hG n;have ag:=hyd G;have M:=hyd n;have ab:Hid (L.toArray.all (·.oneCell')=true):=by
  obtain⟨a1,c1,h1,_⟩:=S1.l.at_;show _=true;rw[R,h1];simp[Yj,Value.oneCell']
 have D:=hyd t;have HL:=hyd R;have ac:=hyd S1;clear G U n R t S1;go_wp2_with (first|(refine Zb rfl 142 _ rfl (w.heap.size+1) 0 rfl L _ V Tryz.underlying142 rfl (by rw[D.out];exact TQ) ?_)|(refine Za rfl 142 _ _ rfl w.heap.size 0 L.toArray rfl rfl (by simpa[D.out]using X) (by simpa[D.out]using TQ) ab.out ?_;rw[Zc,<-ag.out]));refine Zr (v:=.agg L.toArray) (res_load1 Tryz.results65 rfl M.out) rfl ?_;have S1:=ac.out;refine⟨f,vl,by rw[HL.out],HF.out,(S1.l.grown hG (λk hk e=>?_)).mono (by omega),S1.b.grown hG S1.b.size (λq hq=>by cases hq;exact Zg _)⟩;have:=(S1.l.blk k hk).1;have:=Zh e;omega
end
section
open Go.RowKit
theorem Yd:(Tryz.prog.info? 83).map (·.size)=some 7:=by kernel_rfl
def Xi:Array Value:=#[.int .i64 0,.slice none 0 0,.slice none 0 0,.slice none 0 0,.slice none 0 0,.slice none 0 0,.slice none 0 0]
theorem UO (w:World):(zeroValue 83).run Tryz.prog w=.ok (.agg #[I6 0,sN,sN,sN,sN,sN,sN]) w:=by
 have h:(Tryz.prog.info? 83).bind (·.zero)=some (.agg #[I6 0,sN,sN,sN,sN,sN,sN]):=by kernel_rfl
 cases hq:Tryz.prog.info? 83 with
 |none=>rw[hq]at h;cases h
 |some i=>rw[hq]at h;simp at h;simp[zeroValue,typeInfo,hq,h]
variable {tmps:Array Value}{fn:Func}{B b g n:Nat}{v:Value}{W W' w w':World}
theorem XB.block {f:Nat->Int} (h:XB g f n w) (y:w'.heap[g]?=w.heap[g]?):XB g f n w':=λk b=>by
 rw[World.cell?_of_block (w:=w) (a:=(a_ g k)) y,World.frozen?_of_block (w:=w) (a:=(a_ g k)) y];exact h k b
variable {p u:Tmp}
theorem NH {y:TypeId} (h:fn.results=#[.cell p y,.tmp u]) (tmps:Array Value) (P:Program) (w:World):
  (results fn tmps).run P w=((asAddr (tmps.getD p undef)).run P w).andThen λa w₁=>((loadVar y a).run P w₁).andThen λv w₂=>.ok (.tuple #[v,tmps.getD u undef]) w₂:=by
 simp only[results,h];simp[Sem.run_bind,Result.andThen]
theorem Wj {y:TypeId}{P:Program}{ad:Addr}{b:Value} (h:fn.results=#[.cell p y,.tmp u]) (J:tmps.getD p undef=.pointer (some ad)) (H:(loadVar y ad).run P w=.ok v w) (z:tmps.getD u undef=b):
  (results fn tmps).run P w=.ok (.tuple #[v,b]) w:=by
 rw[NH h,J];subst z;simp[asAddr,H]
def BI (B:Nat) (T:Tb) (A:Pc) (w:World):Prop:=∀w'',w.heap.size<=w''.heap.size->(∀q,B<=q->q<w.heap.size->w''.heap[q]?=w.heap[q]?)->Sh T A w''
theorem BI.in_ {T:Tb}{A:Pc} (h:BI B T A w):Sh T A w:=h w (Zg _) (λ_ _ _=>rfl)
theorem VL (w:World) (t:TypeId):(w.alloc (.cells Xi t)).there w.heap.size 0 7:=λj a=>by
 unfold Xi;rcases j with _|_|_|_|_|_|_|j<;>first|(refine⟨?_,?_⟩<;>go_simp)|omega
theorem XS {o:Nat} (h:W.there b o n) (z:0<n) (y:Bl W W'):W'.there b o n:=λj e=>by
 have d:b<W.heap.size:=by
  have h0:=(h 0 z).1;obtain⟨v,f⟩:=Zx.1 h0;exact Ze W _ f
 have c:=y.block b d;rw[World.cell?_of_block (w:=W) (w':=W') (a:=(a_ b (o+j))) c,World.frozen?_of_block (w:=W) (w':=W') (a:=(a_ b (o+j))) c];exact h j e
theorem Gf (ad:Option Addr) (n cap:Nat) (f:Nat->Int) (w w2:World) (J:n<=17592186044416)
  (H:(Builtin.copy_ #[23,23] 3 #[.slice (some (a_ w.heap.size 0)) n n,.slice ad n cap]).run Tryz.prog (w.alloc (.cells (Vy n) 3))=.ok (goInt n) w2)
  (y:Bl w w2) (z:XB w.heap.size f n w2):
  Cp 70 #[.slice ad n cap] w λe w'=>e=.returned (.slice (some (a_ w.heap.size 0)) n n)/\XB w.heap.size f n w'/\Bl w w':=by
 have a:=Ow w n J;go_enter Tryz.func70,Tryz.ntmps70;go_wp2;go_ret;exact⟨rfl,z,y⟩
theorem NC (ad:Option Addr) (n cap:Nat) (f:Nat->Int) (w:World) (y:n<=17592186044416) (z:IL ad f n w):
  Cp 70 #[.slice ad n cap] w λe w'=>e=.returned (.slice (some (a_ w.heap.size 0)) n n)/\XB w.heap.size f n w'/\Bl w w':=by
 obtain⟨w2,h1,h2,h3⟩:=Mz ad n cap n f w (Zg _) z;exact Gf ad n cap f w w2 y h1 h2 (h3.congr (λk a=>by simp[a]))
end
end Go.Proofs.YtoaaklhpmhjhkaaGreat
