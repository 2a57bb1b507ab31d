import Derived.Deep.MidRow
import Derived.Test.YtoaaklhpmhjhkaaGreatC03
set_option maxRecDepth 100000
set_option maxHeartbeats 4000000
set_option linter.all false
namespace Go.Proofs.YtoaaklhpmhjhkaaGreat
open Go.RowKit
open Bm
def bl (f:Nat->Bool) (n:Nat):List Value:=(List.range n).map λi=>.bool (f i)
theorem q0c (f:Nat->Bool) (n:Nat):(bl f n).length=n:=by simp[bl]
theorem q0x (f:Nat->Bool) {n i:Nat} (h:i<n):(bl f n)[i]?=some (.bool (f i)):=by simp[bl,h]
variable {lf lf' lo' : List Int}{b m n : Nat}{E : Nat → Nat → Bool}{ad : Option Addr}{vf vo : Value}{W W' w w' : World}
theorem q0o {f g:Nat->Bool} (h:∀i,i<n->f i=g i):bl f n=bl g n:=by
 unfold bl;exact List.map_congr_left (λi a=>by rw[h i (by simpa using a)])
theorem q2O (f:Nat->Bool) (n i:Nat) (x:Bool):(bl f n).set i (.bool x)=bl (λj=>if j=i then x else f j) n:=by
 refine List.ext_getElem? (λj=>?_);rcases Nat.lt_or_ge j n with a|a
 ·by_cases e:j=i
  ·subst e;rw[List.getElem?_set_self (by rw[q0c];exact a),q0x _ a];simp
  rw[List.getElem?_set_ne (λh=>e h.symm),q0x _ a,q0x _ a];simp[e]
 rw[List.getElem?_eq_none (by rw[List.length_set,q0c];exact a),List.getElem?_eq_none (by rw[q0c];exact a)]
theorem q0w (f:Nat->Bool) (n:Nat):(bl f n).toArray.all (·.oneCell')=true:=by simp[bl,Value.oneCell']
theorem Bm.TC.ltB {t:Nat}{f:Nat->Bool} (h:TC t (bl f (n+1)) w):t<w.heap.size:=World.block_lt_of_cell? w _ (h 0 _ (q0x f (by omega))).1
theorem q9c (w:World):(zeroValue 132).run Tryz.prog w=.ok (.agg (bl (λ_=>false) 96).toArray) w:=by kernel_rfl
theorem q0g:(Tryz.prog.info? 132).map (·.size)=some 96:=by kernel_rfl
theorem q0Z (f g:Nat->Bool) (w:World):
  Calls Tryz.prog 174 #[.agg (bl f 96).toArray,.agg (bl g 96).toArray] w λe w'=>e=.returned (.agg (bl (λi=>f i || g i) 96).toArray)/\Below w.heap.size w w':=by
 have hz:=q9c;obtain⟨W,J⟩:=nam (((w.alloc (.cells (bl f 96).toArray 132)).alloc (.cells (bl g 96).toArray 132)).alloc (.cells (bl (λ_=>false) 96).toArray 132));have S:(w.alloc (.cells (bl f 96).toArray 132)).heap.size=w.heap.size+1:=by simp
 have T:((w.alloc (.cells (bl f 96).toArray 132)).alloc (.cells (bl g 96).toArray 132)).heap.size=w.heap.size+2:=by simp
 have l:=TC.boxed w (bl f 96) 132;have n:=TC.boxed (w.alloc (.cells (bl f 96).toArray 132)) (bl g 96) 132;have o:=TC.boxed ((w.alloc (.cells (bl f 96).toArray 132)).alloc (.cells (bl g 96).toArray 132)) (bl (λ_=>false) 96) 132;rw[S]at n;rw[T,<-J]at o;have Z:=box_bel w (.cells (bl f 96).toArray 132);have Q:=box_bel (w.alloc (.cells (bl f 96).toArray 132)) (.cells (bl g 96).toArray 132);have H:=box_bel ((w.alloc (.cells (bl f 96).toArray 132)).alloc (.cells (bl g 96).toArray 132)) (.cells (bl (λ_=>false) 96).toArray 132);rw[<-J]at H;have z:TC w.heap.size (bl f 96) W:=(l.block (Q.block _ l.ltB)).block (H.block _ (by omega));have A:TC (w.heap.size+1) (bl g 96) W:=n.block (H.block _ (by omega));have B:Below w.heap.size w W:=(Z.trans (Q.mono (by omega))).trans (H.mono (by omega));clear l n Z Q H S T;go_enter Tryz.func174,Tryz.ntmps174;go_wp2_with fail;rw[<-J];clear J
 go_loopw [5] (λx w'=>∃p:Nat,p<=96/\x=.int .i64 p/\TC w.heap.size (bl (λi=>if i<p then f i || g i else f i) 96) w'/\TC (w.heap.size+1) (bl g 96) w'/\TC (w.heap.size+2) (bl (λ_=>false) 96) w'/\Below w.heap.size w w') (λx _=>96-(intOf x).toNat)
 ·exact⟨0,by omega,rfl,by simpa using z,A,o,B⟩
 clear z A o B;obtain⟨p,hp,rfl,l,n,o,I⟩:=hrel;by_cases E:p<96
 ·have V:(p:Int)<96:=by omega
  obtain⟨c1,aa⟩:=l p _ (q0x _ E);have c2:=(n p _ (q0x _ E)).1;simp only[Nat.lt_irrefl,if_false]at c1;have s:=l.set p (by rw[q0c];omega) (.bool (f p || g p));rw[q2O]at s;have a:TC w.heap.size (bl (λi=>if i<p+1 then f i || g i else f i) 96) (wr.setCell ⟨w.heap.size,p,none⟩ (.bool (f p || g p))):=by
   rw[q0o (g:=λj=>if j=p then f p || g p else if j<p then f j || g j else f j) (λi _=>?_)]
   ·exact s
   by_cases e:i=p
   ·subst e;simp
   by_cases R:i<p
   ·simp[e,R,show i<p+1 by omega]
   simp[e,R,show ¬i<p+1 by omega]
  have N:∀k,k≠w.heap.size->(wr.setCell ⟨w.heap.size,p,none⟩ (.bool (f p || g p))).heap[k]?=wr.heap[k]?:=λk hk=>Below.heap_setCell wr ⟨w.heap.size,p,none⟩ _ k (λe=>hk e)
  have b:=n.block (N (w.heap.size+1) (by omega));have c:=o.block (N (w.heap.size+2) (by omega));have d:=I.setCell (p:=⟨w.heap.size,p,none⟩) (Nat.le_refl _) (.bool (f p || g p));obtain⟨x,X⟩:=nam (f p);obtain⟨y,Y⟩:=nam (g p);rw[<-X]at c1 a b c d;rw[<-Y]at c2 a b c d;clear l n o I s N X Y;cases x
  ·simp only[Bool.false_or]at a b c d;go_wp2_with fail;go_roundw
   ·exact⟨p+1,by omega,by go_num,a,b,c,d⟩
   simp[intOf];omega
  simp only[Bool.true_or]at a b c d;go_wp2_with fail;go_roundw
  ·exact⟨p+1,by omega,by go_num,a,b,c,d⟩
  simp[intOf];omega
 have ab:¬(p:Int)<96:=by omega
 obtain⟨L,C⟩:=nam (bl (λi=>f i || g i) 96);have D:bl (λi=>if i<p then f i || g i else f i) 96=L:=by rw[C];exact q0o (λi hi=>by simp[show i<p by omega])
 have m:L.length=96:=by rw[C];exact q0c _ _
 rw[D]at l;have O:=l.range;have G:wr.there (w.heap.size+2) 0 96:=by have:=o.there;rw[q0c]at this;exact this
 have U:=q0e (w.heap.size+2) L 0 wr;have F:=World.rangeAt_setCells_same wr (w.heap.size+2) 0 L (by rw[m];exact G);have h:=run_loadVar_mid (P:=Tryz.prog) (wr.setCells (w.heap.size+2) 0 L) (w.heap.size+2) 0 132 L _ F Tryz.underlying132 rfl (by rw[m];exact q0g);obtain⟨W9,t⟩:=nam (wr.setCells (w.heap.size+2) 0 L);rw[<-t]at U h;have M:=hyd t;have u:=hyd h;have K:Hid (L.toArray.all (·.oneCell')=true):=by show _=true;rw[C];exact q0w _ _
 have r:=hyd m;have HL:=hyd C;clear t F h C m l n o D;go_wp2_with (first|(refine wpList_load_mid rfl 132 _ rfl w.heap.size 0 rfl L _ O Tryz.underlying132 rfl (by rw[r.out];exact q0g) ?_)|(refine wpList_store_mid rfl 132 _ _ rfl (w.heap.size+2) 0 L.toArray rfl rfl (by simpa[r.out]using G) (by simpa[r.out]using q0g) K.out ?_;rw[List.toList_toArray,<-M.out]));refine bodyPost_ret (v:=.agg L.toArray) (res_load1 Tryz.results174 rfl u.out) rfl ?_;exact⟨by rw[HL.out],I.grown U I.size (λq hq=>by cases hq;omega)⟩
theorem Bm.TC.setBools:∀(hs:List Bool) (o:Nat) (f:Nat->Bool) (w:World),o+hs.length<=n->TC b (bl f n) w->TC b (bl (λj=>if o<=j/\j<o+hs.length then hs.getD (j-o) false else f j) n) (w.setCells b o (hs.map .bool))
 |[],o,f,w,_,h=>by
  have:bl (λj=>if o<=j/\j<o+([]:List Bool).length then ([]:List Bool).getD (j-o) false else f j) n=bl f n:=q0o (λi _=>by
   have:¬(o<=i/\i<o+([]:List Bool).length):=by simp
   simp only[this,if_false])
  rw[this];exact h
 |x::hs,o,f,w,hl,h=>by
  have g:o+(hs.length+1)<=n:=by simpa using hl
  have c:=h.set o (by rw[q0c];omega) (.bool x);rw[q2O]at c;have d:=Bm.TC.setBools hs (o+1) _ _ (by omega) c;have e:bl (λj=>if o<=j/\j<o+(x::hs).length then (x::hs).getD (j-o) false else f j) n=bl (λj=>if o+1<=j/\j<o+1+hs.length then hs.getD (j-(o+1)) false else if j=o then x else f j) n:=q0o (λi _=>by
   simp only[List.length_cons];by_cases a:i=o
   ·subst a;rw[if_pos (by omega),if_neg (by omega)];simp
   by_cases e2:o+1<=i/\i<o+1+hs.length
   ·rw[if_pos (by omega),if_pos e2,show i-o=(i-(o+1))+1 by omega];simp
   rw[if_neg (by omega),if_neg e2,if_neg a])
  rw[e];exact d
theorem y2p (f:Nat->Bool) (n:Nat):bl f n=((List.range n).map f).map .bool:=by simp[bl]
theorem q2Z (w:World):(zeroValue 135).run Tryz.prog w=.ok (.agg (bl (λ_=>false) 104).toArray) w:=by kernel_rfl
theorem q0B:(Tryz.prog.info? 135).map (·.size)=some 104:=by kernel_rfl
theorem Bm.TC.part {f:Nat->Bool} (h:TC b (bl f n) w) (hm:m<=n):TC b (bl f m) w:=λk v a=>by
 have c:k<m:=by have:=(List.getElem?_eq_some_iff.1 a).1;rw[q0c]at this;exact this
 rw[q0x _ c]at a;exact h k v (by rw[q0x _ (by omega)];exact a)
theorem y0p (f g:Nat->Bool) (w:World):
  Calls Tryz.prog 175 #[.agg (bl f 104).toArray,.agg (bl g 104).toArray] w λe w'=>e=.returned (.agg (bl (λi=>f i || g i) 104).toArray)/\Below w.heap.size w w':=by
 have hz:=q2Z;obtain⟨W,Q⟩:=nam (((w.alloc (.cells (bl f 104).toArray 135)).alloc (.cells (bl g 104).toArray 135)).alloc (.cells (bl (λ_=>false) 104).toArray 135));have h1:(w.alloc (.cells (bl f 104).toArray 135)).heap.size=w.heap.size+1:=by simp
 have h2:((w.alloc (.cells (bl f 104).toArray 135)).alloc (.cells (bl g 104).toArray 135)).heap.size=w.heap.size+2:=by simp
 have o:=TC.boxed w (bl f 104) 135;have t:=TC.boxed (w.alloc (.cells (bl f 104).toArray 135)) (bl g 104) 135;have F:=TC.boxed ((w.alloc (.cells (bl f 104).toArray 135)).alloc (.cells (bl g 104).toArray 135)) (bl (λ_=>false) 104) 135;rw[h1]at t;rw[h2,<-Q]at F;have x1:=box_bel w (.cells (bl f 104).toArray 135);have x2:=box_bel (w.alloc (.cells (bl f 104).toArray 135)) (.cells (bl g 104).toArray 135);have S:=box_bel ((w.alloc (.cells (bl f 104).toArray 135)).alloc (.cells (bl g 104).toArray 135)) (.cells (bl (λ_=>false) 104).toArray 135);rw[<-Q]at S;have D:TC w.heap.size (bl f 104) W:=(o.block (x2.block _ o.ltB)).block (S.block _ (by omega));have E:TC (w.heap.size+1) (bl g 104) W:=t.block (S.block _ (by omega));have H:Below w.heap.size w W:=(x1.trans (x2.mono (by omega))).trans (S.mono (by omega));clear o t x1 x2 S h1 h2;have r1:=(D.part (m:=96) (by omega)).range;have r2:=(E.part (m:=96) (by omega)).range;rw[Q]at r1 r2;go_enter Tryz.func175,Tryz.ntmps175;go_wp2_with (first|(refine wpList_load_mid rfl 132 _ rfl w.heap.size 0 rfl (bl f 96) _ r1 Tryz.underlying132 rfl (by rw[q0c];exact q0g) ?_)|(refine wpList_load_mid rfl 132 _ rfl (w.heap.size+1) 0 rfl (bl g 96) _ r2 Tryz.underlying132 rfl (by rw[q0c];exact q0g) ?_));rw[<-Q];clear Q r1 r2;refine Calls.mono (q0Z f g W) ?_;rintro e w1 ⟨rfl,z⟩;have o:=D.block (z.block _ D.ltB);have t:=E.block (z.block _ E.ltB);have G:=F.block (z.block _ F.ltB);have I:=H.trans (z.mono H.size);clear D E F H z;have B:w1.there w.heap.size 0 96:=by have:=(o.part (m:=96) (by omega)).there;rw[q0c]at this;exact this
 obtain⟨L,u⟩:=nam (bl (λi=>f i || g i) 96);have n:L.length=96:=by rw[u];exact q0c _ _
 have l:TC w.heap.size (bl (λi=>if i<96 then f i || g i else f i) 104) (w1.setCells w.heap.size 0 L):=by
  have h:=o.setBools ((List.range 96).map λi=>f i || g i) 0 f w1 (by simp);rw[<-y2p,<-u]at h;rw[q0o (λi hi=>?_)]
  ·exact h
  by_cases e:i<96
  ·simp[e,List.getD_eq_getElem?_getD]
  simp[e]
 have U:=q0e w.heap.size L 0 w1;have a:=t.block (U.block _ t.ltB (λe=>by have:=Option.some.inj e;omega));have b:=G.block (U.block _ G.ltB (λe=>by have:=Option.some.inj e;omega));have c:=I.grown U I.size (λq Y=>by cases Y;exact Nat.le_refl _);have C:Hid (L.toArray.all (·.oneCell')=true):=by show _=true;rw[u];exact q0w _ _
 have d:=hyd n;obtain⟨W2,J⟩:=nam (w1.setCells w.heap.size 0 L);rw[<-J]at l a b c;have M:=hyd J;rw[<-u];clear o t G I U u n J;go_wp2_with (first|(refine wpList_store_mid rfl 132 _ _ rfl w.heap.size 0 L.toArray rfl rfl (by simpa[d.out]using B) (by simpa[d.out]using q0g) C.out ?_;rw[List.toList_toArray,<-M.out]));clear B C d M
 go_loopw [5] (λx w'=>∃r:Nat,r<=8/\x=.int .i64 r/\TC w.heap.size (bl (λi=>if i<96+r then f i || g i else f i) 104) w'/\TC (w.heap.size+1) (bl g 104) w'/\TC (w.heap.size+2) (bl (λ_=>false) 104) w'/\Below w.heap.size w w') (λx _=>8-(intOf x).toNat)
 ·exact⟨0,by omega,rfl,l,a,b,c⟩
 clear l a b c;obtain⟨r,hr,rfl,o,t,F,T⟩:=hrel;by_cases ae:r<8
 ·have aa:(r:Int)<8:=by omega
  obtain⟨c1,ab⟩:=o (96+r) _ (q0x _ (by omega));have c2:=(t (96+r) _ (q0x _ (by omega))).1;simp only[Nat.lt_irrefl,if_false]at c1;have l:=o.set (96+r) (by rw[q0c];omega) (.bool (f (96+r) || g (96+r)));rw[q2O]at l;have s:TC w.heap.size (bl (λi=>if i<96+(r+1) then f i || g i else f i) 104) (wr.setCell ⟨w.heap.size,96+r,none⟩ (.bool (f (96+r) || g (96+r)))):=by
   rw[q0o (g:=λj=>if j=96+r then f (96+r) || g (96+r) else if j<96+r then f j || g j else f j) (λi _=>?_)]
   ·exact l
   by_cases e:i=96+r
   ·subst e;simp
   by_cases e1:i<96+r
   ·simp[e,e1,show i<96+(r+1) by omega]
   simp[e,e1,show ¬i<96+(r+1) by omega]
  have X:∀k,k≠w.heap.size->(wr.setCell ⟨w.heap.size,96+r,none⟩ (.bool (f (96+r) || g (96+r)))).heap[k]?=wr.heap[k]?:=λk hk=>Below.heap_setCell wr ⟨w.heap.size,96+r,none⟩ _ k (λe=>hk e)
  have a:=t.block (X (w.heap.size+1) (by omega));have b:=F.block (X (w.heap.size+2) (by omega));have c:=T.setCell (p:=⟨w.heap.size,96+r,none⟩) (Nat.le_refl _) (.bool (f (96+r) || g (96+r)));obtain⟨x,hx⟩:=nam (f (96+r));obtain⟨y,hy⟩:=nam (g (96+r));rw[<-hx]at c1 s a b c;rw[<-hy]at c2 s a b c;clear o t F T l X hx hy;cases x
  ·simp only[Bool.false_or]at s a b c;go_wp2_with fail;go_roundw
   ·exact⟨r+1,by omega,by go_num,s,a,b,c⟩
   simp[intOf];omega
  simp only[Bool.true_or]at s a b c;go_wp2_with fail;go_roundw
  ·exact⟨r+1,by omega,by go_num,s,a,b,c⟩
  simp[intOf];omega
 have ac:¬(r:Int)<8:=by omega
 obtain⟨L,u⟩:=nam (bl (λi=>f i || g i) 104);have O:bl (λi=>if i<96+r then f i || g i else f i) 104=L:=by rw[u];exact q0o (λi hi=>by simp[show i<96+r by omega])
 have n:L.length=104:=by rw[u];exact q0c _ _
 rw[O]at o;have Z:=o.range;have B:wr.there (w.heap.size+2) 0 104:=by have:=F.there;rw[q0c]at this;exact this
 have hG:=q0e (w.heap.size+2) L 0 wr;have R:=World.rangeAt_setCells_same wr (w.heap.size+2) 0 L (by rw[n];exact B);have A:=run_loadVar_mid (P:=Tryz.prog) (wr.setCells (w.heap.size+2) 0 L) (w.heap.size+2) 0 135 L _ R Tryz.underlying135 rfl (by rw[n];exact q0B);obtain⟨W9,K⟩:=nam (wr.setCells (w.heap.size+2) 0 L);rw[<-K]at hG A;have V:=hyd K;have N:=hyd A;have C:Hid (L.toArray.all (·.oneCell')=true):=by show _=true;rw[u];exact q0w _ _
 have d:=hyd n;have HL:=hyd u;clear K R A u n o t F O;go_wp2_with (first|(refine wpList_load_mid rfl 135 _ rfl w.heap.size 0 rfl L _ Z Tryz.underlying135 rfl (by rw[d.out];exact q0B) ?_)|(refine wpList_store_mid rfl 135 _ _ rfl (w.heap.size+2) 0 L.toArray rfl rfl (by simpa[d.out]using B) (by simpa[d.out]using q0B) C.out ?_;rw[List.toList_toArray,<-V.out]));refine bodyPost_ret (v:=.agg L.toArray) (res_load1 Tryz.results175 rfl N.out) rfl ?_;exact⟨by rw[HL.out],T.grown hG T.size (λq Y=>by cases Y;omega)⟩
theorem q4h (w:World):(zeroValue 150).run Tryz.prog w=.ok (.agg #[.slice none 0 0,.slice none 0 0]) w:=by
 go_simp
theorem q1m:(Tryz.prog.info? 150).map (·.size)=some 2:=by kernel_rfl
structure FN (w:World) (vo vf:Value) (lo lf:List Int) (W:World):Prop where
 z:TC w.heap.size [.slice none 0 0,.slice none 0 0] W
 s:TC (w.heap.size+1) [vo,vf] W
 o:OwnL (w.heap.size+2) vo lo W
 f:OwnL (w.heap.size+2) vf lf W
 ne:∀k,vo.ownBlock=some k->vf.ownBlock≠some k
 b:Below w.heap.size w W
theorem FN.size {lo:List Int} (h:FN w vo vf lo lf W):w.heap.size+2<=W.heap.size:=by have:=h.s.lt;omega
theorem FN.below {lo:List Int} (h:FN w vo vf lo lf W) (hW:Below W.heap.size W W'):FN w vo vf lo lf W':=
 ⟨h.z.below hW,h.s.below hW,h.o.below hW,h.f.below hW,h.ne,h.b.trans (hW.mono h.b.size)⟩
theorem FN.putF {w:World}{vo vf:Value}{lo lf:List Int}{W W1 w5:World}{x:Int}{g cap:Nat}{ob:Obj} (h:FN w vo vf lo lf W) (hW1:W1=W.alloc ob)
  (h5:OwnL (w.heap.size+2) (.slice (some ⟨g,0,none⟩) (lf.length+1) cap) (lf++[x]) w5) (hg:W1.grownBy w5 vf.ownBlock) (hgb:vf.ownBlock=some g\/g=W1.heap.size):
  FN w vo (.slice (some ⟨g,0,none⟩) (lf.length+1) cap) lo (lf++[x]) (w5.setCell ⟨w.heap.size+1,1,none⟩ (.slice (some ⟨g,0,none⟩) (lf.length+1) cap)):=by
 have hs:=h.size;have u:Below W.heap.size W W1:=by rw[hW1];exact box_bel _ _
 have r:W1.heap.size=W.heap.size+1:=by rw[hW1];simp
 have d:=h.below u;have t:=hg.size;have j:∀k,k≠w.heap.size+1->(w5.setCell ⟨w.heap.size+1,1,none⟩ (.slice (some ⟨g,0,none⟩) (lf.length+1) cap)).heap[k]?=w5.heap[k]?:=λk a=>Below.heap_setCell w5 ⟨w.heap.size+1,1,none⟩ _ k (λe=>a e)
 have c:=h.f.blk;have l:w.heap.size+2<=g:=(h5.blk g rfl).1;refine⟨?_,?_,?_,?_,?_,?_⟩
 ·refine(d.z.block (hg.block _ (by omega) (λe=>?_))).block (j _ (by omega));have:=(c _ e.symm).1;omega
 ·exact(d.s.block (hg.block _ (by omega) (λe=>by have:=(c _ e.symm).1;omega))).set 1 (by simp) _
 ·exact(d.o.grown hg (λk a e=>h.ne k a e)).keep (λk a=>j k (by have:=(h.o.blk k a).1;omega))
 ·exact h5.keep (λk a=>j k (by cases a;show g≠_;omega))
 ·intro k a e;have e2:g=k:=Option.some.inj e;have m:=h.o.blk k a;rcases hgb with i|i
  ·rw[e2]at i;exact h.ne k a i
  omega
 exact(d.b.grown hg (by omega) (λq n=>by have:=(c q n).1;omega)).setCell (p:=⟨w.heap.size+1,1,none⟩) (Nat.le_succ _) _
theorem FN.putO {w:World}{vo vf:Value}{lo lf:List Int}{W W1 w5:World}{x:Int}{g cap:Nat}{ob:Obj} (h:FN w vo vf lo lf W) (hW1:W1=W.alloc ob)
  (h5:OwnL (w.heap.size+2) (.slice (some ⟨g,0,none⟩) (lo.length+1) cap) (lo++[x]) w5) (hg:W1.grownBy w5 vo.ownBlock) (hgb:vo.ownBlock=some g\/g=W1.heap.size):
  FN w (.slice (some ⟨g,0,none⟩) (lo.length+1) cap) vf (lo++[x]) lf (w5.setCell ⟨w.heap.size+1,0,none⟩ (.slice (some ⟨g,0,none⟩) (lo.length+1) cap)):=by
 have hs:=h.size;have u:Below W.heap.size W W1:=by rw[hW1];exact box_bel _ _
 have r:W1.heap.size=W.heap.size+1:=by rw[hW1];simp
 have d:=h.below u;have t:=hg.size;have j:∀k,k≠w.heap.size+1->(w5.setCell ⟨w.heap.size+1,0,none⟩ (.slice (some ⟨g,0,none⟩) (lo.length+1) cap)).heap[k]?=w5.heap[k]?:=λk a=>Below.heap_setCell w5 ⟨w.heap.size+1,0,none⟩ _ k (λe=>a e)
 have c:=h.o.blk;have l:w.heap.size+2<=g:=(h5.blk g rfl).1;refine⟨?_,?_,?_,?_,?_,?_⟩
 ·refine(d.z.block (hg.block _ (by omega) (λe=>?_))).block (j _ (by omega));have:=(c _ e.symm).1;omega
 ·exact(d.s.block (hg.block _ (by omega) (λe=>by have:=(c _ e.symm).1;omega))).set 0 (by simp) _
 ·exact h5.keep (λk a=>j k (by cases a;show g≠_;omega))
 ·exact(d.f.grown hg (λk a e=>h.ne k e a)).keep (λk a=>j k (by have:=(h.f.blk k a).1;omega))
 ·intro k a e;have e2:g=k:=Option.some.inj a;have m:=h.f.blk k e;rcases hgb with i|i
  ·rw[e2]at i;exact h.ne k i e
  omega
 exact(d.b.grown hg (by omega) (λq n=>by have:=(c q n).1;omega)).setCell (p:=⟨w.heap.size+1,0,none⟩) (Nat.le_succ _) _
def ofL (E:Nat->Nat->Bool) (n:Nat):List Int:=(List.range n).map (idxI E)
def firstL (E:Nat->Nat->Bool) (n:Nat):List Int:=(reps E n).map λ(a:Nat)=>(a:Int)
theorem q4c (E:Nat->Nat->Bool) (n:Nat):ofL E (n+1)=ofL E n++[idxI E n]:=by simp[ofL,List.range_succ]
theorem q1h (E:Nat->Nat->Bool) (n:Nat):(ofL E n).length=n:=by simp[ofL]
theorem q0u (E:Nat->Nat->Bool) (n:Nat):(firstL E n).length=cnt E n:=by simp[firstL,cnt]
theorem q1t (E:Nat->Nat->Bool) (n:Nat):firstL E (n+1)=firstL E n++if least E n=n then [(n:Int)] else []:=by
 unfold firstL;rw[reps_succ,List.map_append];split<;>rfl
def SortPost (E:Nat->Nat->Bool) (n:Nat) (w:World) (e:Ending) (w':World):Prop:=
 ∃vo vf,e=.returned (.agg #[vo,vf])/\OwnL w.heap.size vo (ofL E n) w'/\OwnL w.heap.size vf (firstL E n) w'/\(∀k,vo.ownBlock=some k->vf.ownBlock≠some k)/\Below w.heap.size w w'
theorem y0L (gb:Nat) (A:Aut) (ta:Option Addr) (tc:Nat) (sv:Value) (oa:Option Addr) (oc:Nat) (of:Nat->Int) (w:World) (hA:Aut.Small A) (hr:∀s k,s<A.N->k<A.K->-1<=A.to s k/\A.to s k<A.N) (hG:Gr gb A ta tc sv w) (hO:IL oa of A.N w):
  Calls Tryz.prog 131 #[.pointer (some ⟨gb,0,none⟩),.slice oa A.N oc] w (SortPost (Tg A of) A.N w):=by
 have hz:=q4h;have hn:=hA.n;have HC:Hid (∀(a b:Nat) (w':World),a<A.N->b<A.N->Below w.heap.size w w'->Calls Tryz.prog 176 #[.pointer (some ⟨gb,0,none⟩),.slice oa A.N oc,.int .i64 a,.int .i64 b] w' λe w''=>e=.returned (.bool (Tg A of a b))/\Below w'.heap.size w' w''):=λa b w' ha hb h'=>q6L gb A ta tc sv oa oc of a b w' hA hr (hG.below h') (hO.below h') ha hb
 have HE:=hyd (Tg_eqv A of A.N);clear hG hO hr hA;generalize Tg A of=E at *;obtain⟨W,hW⟩:=nam ((w.alloc (.cells #[.slice none 0 0,.slice none 0 0] 150)).alloc (.cells #[.slice none 0 0,.slice none 0 0] 150));have S0:FN w (.slice none 0 0) (.slice none 0 0) (ofL E 0) (firstL E 0) W:=by
  have aL:(w.alloc (.cells #[.slice none 0 0,.slice none 0 0] 150)).heap.size=w.heap.size+1:=by simp
  rw[hW];refine⟨(TC.boxed w [.slice none 0 0,.slice none 0 0] _).below (box_bel _ _),?_,OwnL.nil _ _,OwnL.nil _ _,λk hk=>(by cases hk),(box_bel w _).trans ((box_bel _ _).mono (by simp))⟩;rw[<-aL];exact TC.boxed _ [.slice none 0 0,.slice none 0 0] _
 go_enter Tryz.func131,Tryz.ntmps131;go_wp2_with fail;rw[<-hW];clear hW
 go_loopw [6] (λx w'=>∃(a:Nat) (vo vf:Value),a<=A.N/\x=.int .i64 a/\FN w vo vf (ofL E a) (firstL E a) w') (λx _=>A.N-(intOf x).toNat)
 ·exact⟨0,_,_,by omega,rfl,S0⟩
 clear S0;obtain⟨a,vo,vf,ha,rfl,S⟩:=hrel;by_cases Z:a<A.N
 ·have aQ:(a:Int)<(A.N:Int):=by omega
  obtain⟨fa,J,aN,_⟩:=S.f.il;obtain⟨p,vc,aO,_⟩:=S.o.il;subst aN;subst aO;rw[q0u]at S;rw[q1h]at S;have l:=rep_new HE.out Z;have aD:=cnt_le E a;obtain⟨id,X⟩:=nam (idx E a);rw[<-X]at l;have u:=hyd X;clear X;obtain⟨c,hc⟩:=nam (cnt E a);have Hc:=hyd hc;rw[<-hc]at l aD S;clear hc;have t:=hyd l.1;have am:=l.2;clear l;go_wp2_with fail
  go_loopw [7] (λx w'=>∃j:Nat,j<=id/\x=.int .i64 j/\FN w (.slice p a vc) (.slice fa c J) (ofL E a) (firstL E a) w') (λx _=>c-(intOf x).toNat)
  ·exact⟨0,by omega,rfl,S⟩
  clear S;obtain⟨j,hj,rfl,S⟩:=hrel;have c1:=(S.s 1 _ rfl).1;have c0:=(S.s 0 _ rfl).1;by_cases aF:j<c
  ·have aP:(j:Int)<c:=by omega
   obtain⟨r,hr⟩:∃r,(reps E a)[j]?=some r:=⟨(reps E a)[j]'(by have:=Hc.out;unfold cnt at this;omega),List.getElem?_eq_getElem _⟩;have aK:=reps_mem hr;have Y:=rep_like HE.out Z hr;rw[<-u.out]at Y;obtain⟨aR,ai,aq,ab⟩:=S.f.il;have ar:=(Value.slice.inj aq).1;rw[<-ar]at ab;obtain⟨ay,az,aE,c2⟩:=ab j (by rw[q0u,<-Hc.out];exact aF);subst aE;clear ar;have al:(firstL E a).getD j 0=(r:Int):=by simp[firstL,List.getD_eq_getElem?_getD,hr]
   simp only[al]at c2;have ac:=HC.out r a wr (by omega) Z S.b;have F:Hid (Calls Tryz.prog 176 #[.pointer (some ⟨gb,0,none⟩),.slice oa A.N oc,.int .i64 r,.int .i64 a] wr λe w''=>e=.returned (.bool (E r a))/\Below wr.heap.size wr w''):=ac;have ah:=hyd Y;clear ac Y hr aK aq ab al;go_wp2_with fail;refine F.out.mono ?_;rintro e w2 ⟨rfl,aj⟩;have S2:=S.below aj;clear S c0 c1 c2 F aj;cases hE:E r a
   ·have aU:j≠id:=λe=>by have:=ah.out.2 e;rw[hE]at this;cases this
    go_wp2_with fail;go_roundw
    ·exact⟨j+1,by omega,by go_num,S2⟩
    simp[intOf];omega
   have aG:=ah.out.1 hE;subst aG;have H:least E a≠a:=λe=>by have:=t.out.2 e;omega
   have q1:((j:Int)==(c:Int))=false:=by simp;omega
   have c1:=(S2.s 1 _ rfl).1;have c0:=(S2.s 0 _ rfl).1;have m:=box_bel w2 (.cells #[.int .i64 (j:Int)] 3);have L:=S2.o.below m;have aa:(w2.alloc (.cells #[.int .i64 (j:Int)] 3)).cell? ⟨w2.heap.size,0,none⟩=some (.int .i64 (j:Int)):=by rw[World.cell?_alloc_new];rfl
   have Q:=Nat.le_trans S2.size m.size;have HK:Hid (∀w5,(w2.alloc (.cells #[.int .i64 (j:Int)] 3)).grownBy w5 (Value.slice p a vc).ownBlock->TC (w.heap.size+1) [.slice p a vc,.slice (some ⟨ay,az,none⟩) c J] w5):=λw5 hg=>
    (S2.s.below m).block (hg.block _ (by have:=S2.size;have:=m.size;omega) (λe=>by have:=(S2.o.blk _ e.symm).1;omega))
   have I:=hyd S2;have y:=hyd H;clear S2 m H;go_wp2_with (first|(at_builtin;refine wpList_append_int (by rfl) _ _ (by rfl) (w.heap.size+2) (.slice p a vc) (ofL E a) (by rfl) L (by rw[q1h];omega) w2.heap.size (j:Int) (by rfl) aa Q _ rfl ?_;intro g cap w5 M d T aH;have c5:=(HK.out w5 d 0 _ rfl).1;have ax:=(HK.out w5 d 0 _ rfl).2));have S3:=I.out.putO rfl M d T;have e1:ofL E a++[(j:Int)]=ofL E (a+1):=by rw[q4c];unfold idxI;rw[<-u.out]
   have e2:firstL E (a+1)=firstL E a:=by rw[q1t,if_neg y.out,List.append_nil]
   rw[e1,<-e2,q1h]at S3;rw[q1h];go_roundw
   ·exact⟨a+1,_,_,by omega,by go_num,S3⟩
   simp[intOf];omega
  have⟨U,hjc2⟩:¬(j:Int)<c/\c=j:=by omega
  have V:id=c:=by omega
  have G:=t.out.1 V;have au:=hyd V;clear U V hj am t;subst hjc2;have U:¬(c:Int)<c:=by omega
  have q1:((c:Int)==(c:Int))=true:=by simp
  have m:=box_bel wr (.cells #[.int .i64 (a:Int)] 3);have L:=S.f.below m;have aa:(wr.alloc (.cells #[.int .i64 (a:Int)] 3)).cell? ⟨wr.heap.size,0,none⟩=some (.int .i64 (a:Int)):=by rw[World.cell?_alloc_new];rfl
  have Q:=Nat.le_trans S.size m.size;have HK:Hid (∀w5,(wr.alloc (.cells #[.int .i64 (a:Int)] 3)).grownBy w5 (Value.slice fa c J).ownBlock->TC (w.heap.size+1) [.slice p a vc,.slice fa c J] w5):=λw5 hg=>
   (S.s.below m).block (hg.block _ (by have:=S.size;have:=m.size;omega) (λe=>by have:=(S.f.blk _ e.symm).1;omega))
  have I:=hyd S;have y:=hyd G;clear S m G;have R:=q0u E a;rw[<-Hc.out]at R;have C:=hyd R;clear R;have HX:Hid (∀g cap w5,OwnL (w.heap.size+2) (.slice (some ⟨g,0,none⟩) (c+1) cap) (firstL E a++[(a:Int)]) w5->(wr.alloc (.cells #[.int .i64 (a:Int)] 3)).grownBy w5 (Value.slice fa c J).ownBlock->((Value.slice fa c J).ownBlock=some g\/g=(wr.alloc (.cells #[.int .i64 (a:Int)] 3)).heap.size) ->
    FN w (.slice p a vc) (.slice (some ⟨g,0,none⟩) (c+1) cap) (ofL E a) (firstL E a++[(a:Int)]) (w5.setCell ⟨w.heap.size+1,1,none⟩ (.slice (some ⟨g,0,none⟩) (c+1) cap))):=λg cap w5 h1 h2 h3=>by
   have h:=I.out.putF (x:=(a:Int)) (g:=g) (cap:=cap) rfl (by rw[C.out];exact h1) h2 h3;rw[C.out]at h;exact h
  have av:Hid (∀(g cap:Nat) (w5:World),FN w (.slice p a vc) (.slice (some ⟨g,0,none⟩) (c+1) cap) (ofL E a) (firstL E a++[(a:Int)]) (w5.setCell ⟨w.heap.size+1,1,none⟩ (.slice (some ⟨g,0,none⟩) (c+1) cap)) ->
    OwnL (w.heap.size+2) (.slice p a vc) (ofL E a) ((w5.setCell ⟨w.heap.size+1,1,none⟩ (.slice (some ⟨g,0,none⟩) (c+1) cap)).alloc (.cells #[.int .i64 (c:Int)] 3)) /\
    ((w5.setCell ⟨w.heap.size+1,1,none⟩ (.slice (some ⟨g,0,none⟩) (c+1) cap)).alloc (.cells #[.int .i64 (c:Int)] 3)).cell? ⟨w5.heap.size,0,none⟩=some (.int .i64 (c:Int)) /\
    w.heap.size+2<=((w5.setCell ⟨w.heap.size+1,1,none⟩ (.slice (some ⟨g,0,none⟩) (c+1) cap)).alloc (.cells #[.int .i64 (c:Int)] 3)).heap.size /\
    ∀D,((w5.setCell ⟨w.heap.size+1,1,none⟩ (.slice (some ⟨g,0,none⟩) (c+1) cap)).alloc (.cells #[.int .i64 (c:Int)] 3)).grownBy D (Value.slice p a vc).ownBlock->TC (w.heap.size+1) [.slice p a vc,.slice (some ⟨g,0,none⟩) (c+1) cap] D):=λg cap w5 hF=>by
   have aM:(w5.setCell ⟨w.heap.size+1,1,none⟩ (.slice (some ⟨g,0,none⟩) (c+1) cap)).heap.size=w5.heap.size:=by simp[World.setCell]
   generalize w5.setCell ⟨w.heap.size+1,1,none⟩ (.slice (some ⟨g,0,none⟩) (c+1) cap)=W5 at *;have m:=box_bel W5 (.cells #[.int .i64 (c:Int)] 3);refine⟨hF.o.below m,by rw[<-aM,World.cell?_alloc_new];rfl,Nat.le_trans hF.size m.size,λD hg=>?_⟩;exact(hF.s.below m).block (hg.block _ (by have:=hF.size;have:=m.size;omega) (λe=>by have:=(hF.o.blk _ e.symm).1;omega))
  go_wp2_with (first|(at_builtin;refine wpList_append_int (by rfl) _ _ (by rfl) (w.heap.size+2) (.slice fa c J) (firstL E a) (by rfl) L (by rw[C.out];omega) wr.heap.size (a:Int) (by rfl) aa Q _ rfl ?_;rw[C.out];intro g cap w5 M d T aH;have c5:=(HK.out w5 d 1 _ rfl).1;have ax:=(HK.out w5 d 1 _ rfl).2;have S5:=HX.out g cap w5 M d T;have c6:=(S5.s 0 _ rfl).1;obtain⟨aA,aI,aC,an⟩:=av.out g cap w5 S5;have ag:Hid (∀D,((w5.setCell ⟨w.heap.size+1,1,none⟩ (.slice (some ⟨g,0,none⟩) (c+1) cap)).alloc (.cells #[.int .i64 (c:Int)] 3)).grownBy D (Value.slice p a vc).ownBlock->TC (w.heap.size+1) [.slice p a vc,.slice (some ⟨g,0,none⟩) (c+1) cap] D):=an;clear an)|(at_builtin;refine wpList_append_int (by rfl) _ _ (by rfl) (w.heap.size+2) (.slice p a vc) (ofL E a) (by rfl) aA (by rw[q1h];omega) w5.heap.size (c:Int) (by rfl) aI aC _ rfl ?_;intro g2 ai D aB i ak aT;have c7:=(ag.out D i 0 _ rfl).1;have aS:=(ag.out D i 0 _ rfl).2));have S7:=S5.putO rfl aB i ak;have e1:ofL E a++[(c:Int)]=ofL E (a+1):=by rw[q4c];unfold idxI;rw[<-u.out,au.out]
  have e2:firstL E a++[(a:Int)]=firstL E (a+1):=by rw[q1t,if_pos y.out]
  rw[e1,e2,q1h]at S7;rw[q1h];go_roundw
  ·exact⟨a+1,_,_,by omega,by go_num,S7⟩
  simp[intOf];omega
 have⟨U,haN⟩:¬(a:Int)<(A.N:Int)/\a=A.N:=by omega
 have aJ:=S.s.range;have ap:=S.z.there;have hG:=q0e w.heap.size [vo,vf] 0 wr;have ao:=World.rangeAt_setCells_same wr w.heap.size 0 [vo,vf] ap;have B:=run_loadVar_mid (P:=Tryz.prog) (wr.setCells w.heap.size 0 [vo,vf]) w.heap.size 0 150 [vo,vf] _ ao Tryz.underlying150 rfl q1m;obtain⟨W9,O⟩:=nam (wr.setCells w.heap.size 0 [vo,vf]);rw[<-O]at hG B;have aw:=hyd O;have af:=hyd B;have ae:Hid (vo.oneCell'=true/\vf.oneCell'=true):=by
  obtain⟨a1,c1,h1,_⟩:=S.o.il;obtain⟨a2,c2,h2,_⟩:=S.f.il;rw[h1,h2];exact⟨rfl,rfl⟩
 clear O ao B;go_wp2_with (first|(refine wpList_load_mid rfl 150 _ rfl (w.heap.size+1) 0 rfl [vo,vf] _ aJ Tryz.underlying150 rfl q1m ?_)|(refine wpList_store_mid rfl 150 _ _ rfl w.heap.size 0 #[vo,vf] rfl rfl ap q1m (by simp[ae.out.1,ae.out.2]) ?_;rw[List.toList_toArray,<-aw.out]));refine bodyPost_ret (v:=.agg #[vo,vf]) (res_load1 Tryz.results131 rfl af.out) rfl ?_;rw[haN]at S;refine⟨vo,vf,rfl,(S.o.grown hG (λk hk e=>?_)).mono (by omega),(S.f.grown hG (λk hk e=>?_)).mono (by omega),S.ne,S.b.grown hG S.b.size (λq hq=>by cases hq;exact Nat.le_refl _)⟩
 ·have:=(S.o.blk k hk).1;have:=Option.some.inj e;omega
 have:=(S.f.blk k hk).1;have:=Option.some.inj e;omega
def vdF (f:Nat->Bool):Nat->Nat->Int
 |0,_=>-1
 |u+1,r=>if f r then (r:Int) else vdF f u (r+1)
theorem y2g (f:Nat->Bool):∀u r,-1<=vdF f u r/\vdF f u r<(u+r:Nat)
 |0,r=>by unfold vdF;omega
 |u+1,r=>by
  have:=y2g f u (r+1);rw[vdF];split<;>omega
theorem q4o (b o:Nat) (f:Nat->Bool) (w:World) (h:∀r,r<8->w.cell? ⟨b,o+96+r,none⟩=some (.bool (f r))):
  Calls Tryz.prog 130 #[.pointer (some ⟨b,o,none⟩)] w λe w'=>e=.returned (.int .i64 (vdF f 8 0))/\w'=w:=by
 obtain⟨R,g⟩:=nam (vdF f 8 0);rw[<-g];have d:=hyd g;have H:=hyd h;clear g h;go_enter Tryz.func130,Tryz.ntmps130;go_wp2_with fail
 go_loopw [3] (λx w'=>∃(u r:Nat),u+r=8/\x=.int .i64 r/\Hid (R=vdF f u r)/\w'=w) (λx _=>8-(intOf x).toNat)
 ·exact⟨8,0,rfl,rfl,d,rfl⟩
 clear d;obtain⟨u,r,k,rfl,d,rfl⟩:=hrel;by_cases i:r<8
 ·have j:(r:Int)<8:=by omega
  rcases u with _|u
  ·omega
  have c:=H.out r i;cases hf:f r
  ·rw[hf]at c;have a:Hid (R=vdF f u (r+1)):=by show _=_;rw[d.out,vdF,hf];rfl
   clear d hf;go_wp2_with fail;go_roundw
   ·exact⟨u,r+1,by omega,by go_num,a,trivial⟩
   simp[intOf];omega
  rw[hf]at c;have a:Hid (R=r):=by show _=_;rw[d.out,vdF,hf];rfl
  clear d hf;go_wp2_with fail;go_ret;exact⟨q0l a.out.symm,rfl⟩
 have⟨hge,hu0⟩:¬(r:Int)<8/\u=0:=by omega
 subst hu0;have a:Hid (R=-1):=d;go_wp2_with fail;go_ret;exact⟨q0l a.out.symm,rfl⟩
def SR (sa:Option Addr) (rl:Nat->Nat->Bool) (n:Nat) (w:World):Prop:=∀i,i<n->∃b off,sa=some ⟨b,off,none⟩/\∀r,r<8->w.cell? ⟨b,off+i*104+96+r,none⟩=some (.bool (rl i r))
theorem SR.below {sa:Option Addr}{rl:Nat->Nat->Bool} (h:SR sa rl n w) (hW:Below w.heap.size w w'):SR sa rl n w':=λi d=>by
 obtain⟨b,off,e,a⟩:=h i d;refine⟨b,off,e,λr c=>?_⟩;rw[hW.cell (p:=⟨b,off+i*104+96+r,none⟩) (World.block_lt_of_cell? w _ (a r c))];exact a r c
theorem IL.congr {f g:Nat->Int} (h:IL ad f n w) (e:∀i,i<n->f i=g i):IL ad g n w:=λi a=>by
 obtain⟨b,off,c,d⟩:=h i a;exact⟨b,off,c,by rw[<-e i a];exact d⟩
theorem FN.putB {vo' vf':Value}{lo:List Int} (h:FN w vo vf lo lf W) (ho:OwnL (w.heap.size+2) vo' lo' W) (hf:OwnL (w.heap.size+2) vf' lf' W) (hne:∀k,vo'.ownBlock=some k->vf'.ownBlock≠some k):
  FN w vo' vf' lo' lf' (W.setCells (w.heap.size+1) 0 [vo',vf']):=by
 have c:=q0e (w.heap.size+1) [vo',vf'] 0 W;have hs:=h.size;refine⟨h.z.block (c.block _ (by omega) (λe=>by have:=Option.some.inj e;omega)),?_,ho.grown c (λk a e=>?_),hf.grown c (λk a e=>?_),hne,h.b.grown c h.b.size (λq i=>by cases i;omega)⟩
 ·intro k v g;have d:=World.rangeAt_setCells_same W (w.heap.size+1) 0 [vo',vf'] h.s.there k v g;have a:=(List.getElem?_eq_some_iff.1 g).1;have f:=(h.s.there k a).2;rw[Nat.zero_add]at d f;exact⟨d,by rw[World.frozen?_setCells];exact f⟩
 ·have:=(ho.blk k a).1;have:=Option.some.inj e;omega
 have:=(hf.blk k a).1;have:=Option.some.inj e;omega
def vdL (A:Aut) (n:Nat):List Int:=(List.range n).map λi=>A.vd i+1
theorem y1e (A:Aut) (n:Nat):vdL A (n+1)=vdL A n++[A.vd n+1]:=by simp[vdL,List.range_succ]
theorem q4p (A:Aut) (n:Nat):(vdL A n).length=n:=by simp[vdL]
def Rounds (A:Aut) (g:Int) (lo lf:List Int):Prop:=
 (g=-1/\lo=vdL A A.N/\lf=[])\/(g=0/\lo=ofL (Tg A λa=>A.vd a+1) A.N/\lf=firstL (Tg A λa=>A.vd a+1) A.N) \/
 ∃E,Part A E/\g=cnt E A.N/\lo=ofL (Tg A (idxI E)) A.N/\lf=firstL (Tg A (idxI E)) A.N
theorem y2W (h:0<n):0<cnt E n:=by
 have b:=cnt_mono E (show 1<=n from h);have a:least E 0=0:=by have:=least_le E 0;omega
 have c:cnt E 1=cnt E 0+1:=by have:=cnt_succ E 0;rw[if_pos a]at this;exact this
 omega
variable {A : Aut}
theorem Rounds.step (hA:A.Good) {g:Int}{lo lf:List Int} (h:Rounds A g lo lf):∃of:Nat->Int,(∀i,i<A.N->lo.getD i 0=of i)/\lo.length=A.N/\Rounds A lf.length (ofL (Tg A of) A.N) (firstL (Tg A of) A.N):=by
 have c:∀E,∀i,i<A.N->(ofL E A.N).getD i 0=idxI E i:=λE i b=>by simp[ofL,List.getD_eq_getElem?_getD,b]
 rcases h with ⟨rfl,rfl,rfl⟩|⟨rfl,rfl,rfl⟩|⟨E,d,rfl,rfl,rfl⟩
 ·exact⟨λa=>A.vd a+1,λi b=>by simp[vdL,List.getD_eq_getElem?_getD,b],q4p _ _,Or.inr (Or.inl ⟨rfl,rfl,rfl⟩)⟩
 ·exact⟨idxI (Tg A λa=>A.vd a+1),c _,q1h _ _,Or.inr (Or.inr ⟨_,Part.first hA,by rw[q0u],rfl,rfl⟩)⟩
 exact⟨idxI (Tg A (idxI E)),c _,q1h _ _,Or.inr (Or.inr ⟨_,(d.next hA).1,by rw[q0u],rfl,rfl⟩)⟩
theorem Rounds.done (hA:A.Good) (hN:0<A.N) {g:Int}{lo lf:List Int} (h:Rounds A g lo lf) (hd:(lf.length:Int)<=g):lo=ofL (alB A) A.N/\lf=firstL (alB A) A.N:=by
 rcases h with ⟨rfl,rfl,rfl⟩|⟨rfl,rfl,rfl⟩|⟨E,j,rfl,rfl,rfl⟩
 ·simp at hd
 ·rw[q0u]at hd;have:=y2W (E:=Tg A λa=>A.vd a+1) hN;omega
 rw[q0u]at hd;have e:=j.stable hA (by omega);have c:=Tg_eqv A (idxI E) A.N;have d:=alB_eqv A A.N;have f:∀a b,a<A.N->b<A.N->(Tg A (idxI E) a b=true<->alB A a b=true):=λa b ha k=>by rw[alB_iff];exact e a b ha k
 refine⟨?_,?_⟩
 ·unfold ofL;refine List.map_congr_left (λi l=>?_);show((idx (Tg A (idxI E)) i:Nat):Int)=((idx (alB A) i:Nat):Int);rw[idx_congr c d f (by simpa using l)]
 unfold firstL;rw[reps_congr c d f _ (Nat.le_refl _)]
theorem Rounds.lt {g:Int}{lo:List Int} (h:Rounds A g lo lf):lf.length<=A.N/\-1<=g:=by
 rcases h with ⟨rfl,rfl,rfl⟩|⟨rfl,rfl,rfl⟩|⟨E,b,rfl,rfl,rfl⟩
 ·simp
 ·rw[q0u];have:=cnt_le (Tg A λa=>A.vd a+1) A.N;omega
 rw[q0u];have:=cnt_le (Tg A (idxI E)) A.N;omega
theorem y1b (gb:Nat) (A:Aut) (ta:Option Addr) (tc:Nat) (sa:Option Addr) (sc:Nat) (rl:Nat->Nat->Bool) (w:World) (hA:Aut.Small A) (hGd:A.Good) (hN:0<A.N) (hG:Gr gb A ta tc (.slice sa A.N sc) w) (hS:SR sa rl A.N w) (hv:∀i,i<A.N->A.vd i=vdF (rl i) 8 0):
  Calls Tryz.prog 67 #[.pointer (some ⟨gb,0,none⟩)] w (SortPost (alB A) A.N w):=by
 have hz:=q4h;have hn:=hA.n;have HF:Hid (∀(Y:Option Addr) (oc:Nat) (of:Nat->Int) (w':World),Below w.heap.size w w'->IL Y of A.N w'->Calls Tryz.prog 131 #[.pointer (some ⟨gb,0,none⟩),.slice Y A.N oc] w' (SortPost (Tg A of) A.N w')):=λY oc of w' J hO=>y0L gb A ta tc _ Y oc of w' hA hGd.rng (hG.below J) hO
 have HG:Hid (∀w',Below w.heap.size w w'->w'.cell? ⟨gb,1,none⟩=some (.slice sa A.N sc)):=λw' J=>(hG.below J).c1
 have HS:Hid (∀w',Below w.heap.size w w'->SR sa rl A.N w'):=λw' J=>hS.below J
 have HV:=hyd hv;have F:Hid A.Good:=hGd;clear hG hS hA hGd hv;obtain⟨W,hW⟩:=nam ((w.alloc (.cells #[.slice none 0 0,.slice none 0 0] 150)).alloc (.cells #[.slice none 0 0,.slice none 0 0] 150));have S0:FN w (.slice none 0 0) (.slice none 0 0) (vdL A 0) [] W:=by
  have ak:(w.alloc (.cells #[.slice none 0 0,.slice none 0 0] 150)).heap.size=w.heap.size+1:=by simp
  rw[hW];refine⟨(TC.boxed w [.slice none 0 0,.slice none 0 0] _).below (box_bel _ _),?_,OwnL.nil _ _,OwnL.nil _ _,λk L=>(by cases L),(box_bel w _).trans ((box_bel _ _).mono (by simp))⟩;rw[<-ak];exact TC.boxed _ [.slice none 0 0,.slice none 0 0] _
 go_enter Tryz.func67,Tryz.ntmps67;go_wp2_with fail;rw[<-hW];clear hW
 go_loopw [4] (λx w'=>∃(a:Nat) (vo:Value),a<=A.N/\x=.int .i64 a/\FN w vo (.slice none 0 0) (vdL A a) [] w') (λx _=>A.N-(intOf x).toNat)
 ·exact⟨0,_,by omega,rfl,S0⟩
 clear S0;obtain⟨a,vo,ha,rfl,S⟩:=hrel;have c1:=HG.out wr S.b;by_cases C:a<A.N
 ·have an:(a:Int)<(A.N:Int):=by omega
  obtain⟨b,off,al,hr⟩:=HS.out wr S.b a C;have H:Hid (Calls Tryz.prog 130 #[.pointer (some ⟨b,off+a*104,none⟩)] wr λe w'=>e=.returned (.int .i64 (A.vd a))/\w'=wr):=by
   rw[HV.out a C];exact q4o b (off+a*104) (rl a) wr hr
  have ar:-1<=A.vd a/\A.vd a<8:=by rw[HV.out a C];have:=y2g (rl a) 8 0;omega
  have S1:=hyd S;clear hr S;rw[al]at c1;go_wp2_with fail;refine H.out.mono ?_;rintro e wr ⟨rfl,rfl⟩;clear H c1;obtain⟨D,vc,c,_⟩:=S1.out.o.il;rw[q4p]at c;subst c;obtain⟨y,hy⟩:=nam (A.vd a+1);have iy:=hy.symm;have Hy:=hyd hy;have S2:=S1.out;have c0:=(S2.s 0 _ rfl).1;have R:=box_bel wr (.cells #[.int .i64 y] 3);have ac:=S2.o.below R;have ai:(wr.alloc (.cells #[.int .i64 y] 3)).cell? ⟨wr.heap.size,0,none⟩=some (.int .i64 y):=by rw[World.cell?_alloc_new];rfl
  have ag:=Nat.le_trans S2.size R.size;have HK:Hid (∀w5,(wr.alloc (.cells #[.int .i64 y] 3)).grownBy w5 (Value.slice D a vc).ownBlock->TC (w.heap.size+1) [.slice D a vc,.slice none 0 0] w5):=λw5 hg=>
   (S2.s.below R).block (hg.block _ (by have:=S2.size;have:=R.size;omega) (λe=>by have:=(S2.o.blk _ e.symm).1;omega))
  clear S2 R hy;go_wp2_with (first|(at_builtin;refine wpList_append_int (by rfl) _ _ (by rfl) (w.heap.size+2) (.slice D a vc) (vdL A a) (by rfl) ac (by rw[q4p];omega) wr.heap.size y (by rfl) ai ag _ rfl ?_;intro g cap w5 ae d ah aq;have c5:=(HK.out w5 d 0 _ rfl).1;have ao:=(HK.out w5 d 0 _ rfl).2));have V:=S1.out.putO rfl ae d ah;have e1:vdL A a++[y]=vdL A (a+1):=by rw[y1e,Hy.out]
  rw[e1,q4p]at V;rw[q4p];go_roundw
  ·exact⟨a+1,_,by omega,by go_num,V⟩
  simp[intOf];omega
 have⟨hge,haN⟩:¬(a:Int)<(A.N:Int)/\a=A.N:=by omega
 subst haN;have S1:=S;clear S;go_wp2_with fail
 go_loopw [6] (λx w'=>∃(g:Int) (vo vf:Value) (lo lf:List Int),x=.int .i64 g/\FN w vo vf lo lf w'/\Hid (Rounds A g lo lf)) (λx _=>((A.N:Int)+1-intOf x).toNat)
 ·exact⟨-1,_,_,_,_,rfl,S1,Or.inl ⟨rfl,rfl,rfl⟩⟩
 clear S1 c1;obtain⟨g,vo,vf,lo,lf,rfl,S,G⟩:=hrel;obtain⟨D,vc,c,t⟩:=S.o.il;obtain⟨fa,h,am,_⟩:=S.f.il;subst c;subst am;have hb:=G.out.lt;obtain⟨m,hm⟩:=nam lf.length;have Hm:=hyd hm;rw[<-hm]at S hb;clear hm;by_cases ap:g<(m:Int)
 ·obtain⟨of,X,K,h3⟩:=G.out.step F.out;have u:IL D of A.N wr:=by rw[K]at t;exact t.congr X
  rw[K]at S;have E:=hyd (HF.out D vc of wr S.b u);have aa:Hid (Rounds A m (ofL (Tg A of) A.N) (firstL (Tg A of) A.N)):=by rw[Hm.out];exact h3
  have c0:=(S.s 0 _ rfl).1;have c1:=(S.s 1 _ rfl).1;have p:=hyd S;clear S t u X K h3 G;go_wp2_with fail;refine E.out.mono ?_;rintro e w2 ⟨U,T,rfl,ho,hf,M,af⟩;have S2:=p.out.below af;have Q:=p.out.size;have V:=S2.putB (ho.mono Q) (hf.mono Q) M;have r:=S2.s.there;have l:Hid (U.oneCell'=true/\T.oneCell'=true):=by
   obtain⟨a1,c1,X,_⟩:=ho.il;obtain⟨a2,c2,K,_⟩:=hf.il;rw[X,K];exact⟨rfl,rfl⟩
  clear S2 ho hf M E c0 c1;go_wp2_with (first|(refine wpList_store_mid rfl 150 _ _ rfl (w.heap.size+1) 0 #[U,T] rfl rfl r q1m (by simp[l.out.1,l.out.2]) ?_;rw[List.toList_toArray]));simp only[Act.put];go_roundw
  ·exact⟨m,_,_,_,_,rfl,V,aa⟩
  simp[intOf];omega
 have hd:=G.out.done F.out hN (by rw[<-Hm.out];omega);have c1:=(S.s 1 _ rfl).1;obtain⟨e1,e2⟩:=hd;subst e1;subst e2;obtain⟨vo,c⟩:=nam (Value.slice D (ofL (alB A) A.N).length vc);have c0:=(S.s 0 _ rfl).1;rw[<-c]at S c0;have aj:=S.s.range;have r:=S.z.there;have hG:=q0e w.heap.size [vo,.slice fa m h] 0 wr;have O:=World.rangeAt_setCells_same wr w.heap.size 0 [vo,.slice fa m h] r;have j:=run_loadVar_mid (P:=Tryz.prog) (wr.setCells w.heap.size 0 [vo,.slice fa m h]) w.heap.size 0 150 [vo,.slice fa m h] _ O Tryz.underlying150 rfl q1m;obtain⟨W9,B⟩:=nam (wr.setCells w.heap.size 0 [vo,.slice fa m h]);rw[<-B]at hG j;have ab:=hyd B;have I:=hyd j;have l:Hid (vo.oneCell'=true):=by rw[c];exact rfl
 have Z:Hid ((Value.slice fa m h).oneCell'=true):=rfl;have p:Hid (FN w vo (.slice fa m h) (ofL (alB A) A.N) (firstL (alB A) A.N) wr):=S;clear B O j c S t G;go_wp2_with (first|(refine wpList_load_mid rfl 150 _ rfl (w.heap.size+1) 0 rfl [vo,.slice fa m h] _ aj Tryz.underlying150 rfl q1m ?_)|(refine wpList_store_mid rfl 150 _ _ rfl w.heap.size 0 #[vo,.slice fa m h] rfl rfl r q1m (by simp[l.out,Z.out]) ?_;rw[List.toList_toArray,<-ab.out]));refine bodyPost_ret (v:=.agg #[vo,.slice fa m h]) (res_load1 Tryz.results67 rfl I.out) rfl ?_;have S:=p.out;refine⟨vo,.slice fa m h,rfl,(S.o.grown hG (λk L e=>?_)).mono (by omega),(S.f.grown hG (λk L e=>?_)).mono (by omega),S.ne,S.b.grown hG S.b.size (λq hq=>by cases hq;exact Nat.le_refl _)⟩
 ·have:=(S.o.blk k L).1;have:=Option.some.inj e;omega
 have:=(S.f.blk k L).1;have:=Option.some.inj e;omega
end Go.Proofs.YtoaaklhpmhjhkaaGreat
