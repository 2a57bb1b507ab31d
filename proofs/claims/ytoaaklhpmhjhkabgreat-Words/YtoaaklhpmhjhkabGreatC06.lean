import Derived.Deep.MidRow
import Derived.Test.YtoaaklhpmhjhkabGreatC05
set_option maxRecDepth 100000
set_option maxHeartbeats 4000000
set_option linter.all false
namespace Go.Proofs.YtoaaklhpmhjhkabGreat
section
open Go.RowKit
open Bm
def bl (f:Nat->Bool) (n:Nat):List Value:=(List.range n).map fun i=>.bool (f i)
theorem Y7 (f:Nat->Bool) (n:Nat):(bl f n).length=n:=by simp[bl]
theorem YK (f:Nat->Bool) {n i:Nat} (h:i<n):(bl f n)[i]?=some (.bool (f i)):=by simp[bl,h]
variable {tmps:Array Value}{fn:Func}{lf lf' lo lo':List Int}{b g m n t:Nat}{f:Nat->Int}{E:Nat->N_}{ad:Option Addr}{v vf vo:Value}{W W' w w':World}
theorem YR {f g:Nat->Bool} (h:∀i,i<n->f i=g i):bl f n=bl g n:=by
 unfold bl;exact List.map_congr_left (fun i hi=>by rw[h i (by simpa using hi)])
theorem UG (f:Nat->Bool) (n i:Nat) (x:Bool):(bl f n).set i (.bool x)=bl (fun j=>if j=i then x else f j) n:=by
 refine List.ext_getElem? (fun j=>?_);rcases Nat.lt_or_ge j n with hj|hj
 ·by_cases e:j=i
  ·subst e;rw[List.getElem?_set_self (by rw[Y7];exact hj),YK _ hj];simp
  ·rw[List.getElem?_set_ne (fun h=>e h.symm),YK _ hj,YK _ hj];simp[e]
 ·rw[List.getElem?_eq_none (by rw[List.length_set,Y7];exact hj),List.getElem?_eq_none (by rw[Y7];exact hj)]
theorem YO (f:Nat->Bool) (n:Nat):(bl f n).toArray.all (·.oneCell')=true:=by simp[bl,Value.oneCell']
theorem Bm.TC.ltB {f:Nat->Bool} (h:TC t (bl f (n+1)) w):t<w.heap.size:=World.block_lt_of_cell? w _ (h 0 _ (YK f (by omega))).1
theorem MV (w:World):(zeroValue 59).run Tryz.prog w=.ok (.agg (bl (fun _=>false) 96).toArray) w:=by kernel_rfl
theorem Y2:(Tryz.prog.info? 59).map (·.size)=some 96:=by kernel_rfl
theorem XS (f g:Nat->Bool) (w:World):
  Calls Tryz.prog 69 #[.agg (bl f 96).toArray,.agg (bl g 96).toArray] w fun e w'=>e=.returned (.agg (bl (fun i=>f i || g i) 96).toArray)/\Below w.heap.size w w':=by
 have hz:=MV;obtain⟨W,hW⟩:=nam (((w.alloc (.cells (bl f 96).toArray 59)).alloc (.cells (bl g 96).toArray 59)).alloc (.cells (bl (fun _=>false) 96).toArray 59));have h1:(w.alloc (.cells (bl f 96).toArray 59)).heap.size=w.heap.size+1:=by simp
 have h2:((w.alloc (.cells (bl f 96).toArray 59)).alloc (.cells (bl g 96).toArray 59)).heap.size=w.heap.size+2:=by simp
 have T1:=TC.boxed w (bl f 96) 59;have T2:=TC.boxed (w.alloc (.cells (bl f 96).toArray 59)) (bl g 96) 59;have T3:=TC.boxed ((w.alloc (.cells (bl f 96).toArray 59)).alloc (.cells (bl g 96).toArray 59)) (bl (fun _=>false) 96) 59;rw[h1]at T2;rw[h2,<-hW]at T3;have x1:=box_bel w (.cells (bl f 96).toArray 59);have x2:=box_bel (w.alloc (.cells (bl f 96).toArray 59)) (.cells (bl g 96).toArray 59);have x3:=box_bel ((w.alloc (.cells (bl f 96).toArray 59)).alloc (.cells (bl g 96).toArray 59)) (.cells (bl (fun _=>false) 96).toArray 59);rw[<-hW]at x3;have T1':TC w.heap.size (bl f 96) W:=(T1.block (x2.block _ T1.ltB)).block (x3.block _ (by omega));have T2':TC (w.heap.size+1) (bl g 96) W:=T2.block (x3.block _ (by omega));have hB0:Below w.heap.size w W:=(x1.trans (x2.mono (by omega))).trans (x3.mono (by omega));clear T1 T2 x1 x2 x3 h1 h2;go_enter Tryz.func69,Tryz.ntmps69;go_wp2_with fail;rw[<-hW];clear hW
 go_loopw [5] (fun x w'=>∃p:Nat,p<=96/\x=.int .i64 p/\TC w.heap.size (bl (fun i=>if i<p then f i || g i else f i) 96) w'/\TC (w.heap.size+1) (bl g 96) w'/\TC (w.heap.size+2) (bl (fun _=>false) 96) w'/\Below w.heap.size w w') (fun x _=>96-(intOf x).toNat)
 case atStart=>exact⟨0,by omega,rfl,by simpa using T1',T2',T3,hB0⟩
 case round=>
  clear T1' T2' T3 hB0;obtain⟨p,hp,rfl,T1,T2,T3,hB⟩:=hrel;by_cases hlt:p<96
  ·have hlt':(p:Int)<96:=by omega
   obtain⟨c1,c1f⟩:=T1 p _ (YK _ hlt);have c2:=(T2 p _ (YK _ hlt)).1;simp only[Nat.lt_irrefl,if_false]at c1;have T1n:=T1.set p (by rw[Y7];omega) (.bool (f p || g p));rw[UG]at T1n;have T1m:TC w.heap.size (bl (fun i=>if i<p+1 then f i || g i else f i) 96) (wr.setCell ⟨w.heap.size,p,none⟩ (.bool (f p || g p))):=by
    rw[YR (g:=fun j=>if j=p then f p || g p else if j<p then f j || g j else f j) (fun i _=>?_)]
    ·exact T1n
    ·by_cases e:i=p
     ·subst e;simp
     ·by_cases e1:i<p
      ·simp[e,e1,show i<p+1 by omega]
      ·simp[e,e1,show ¬i<p+1 by omega]
   have hb:∀k,k≠w.heap.size->(wr.setCell ⟨w.heap.size,p,none⟩ (.bool (f p || g p))).heap[k]?=wr.heap[k]?:=fun k hk=>Below.heap_setCell wr ⟨w.heap.size,p,none⟩ _ k (fun e=>hk e)
   have T2n:=T2.block (hb (w.heap.size+1) (by omega));have T3n:=T3.block (hb (w.heap.size+2) (by omega));have hBn:=hB.setCell (p:=⟨w.heap.size,p,none⟩) (Nat.le_refl _) (.bool (f p || g p));obtain⟨x,hx⟩:=nam (f p);obtain⟨y,hy⟩:=nam (g p);rw[<-hx]at c1 T1m T2n T3n hBn;rw[<-hy]at c2 T1m T2n T3n hBn;clear T1 T2 T3 hB T1n hb hx hy;cases x
   ·simp only[Bool.false_or]at T1m T2n T3n hBn;go_wp2_with fail;go_roundw
    case rel=>exact⟨p+1,by omega,by go_num,T1m,T2n,T3n,hBn⟩
    case measure=>simp[intOf];omega
   ·simp only[Bool.true_or]at T1m T2n T3n hBn;go_wp2_with fail;go_roundw
    case rel=>exact⟨p+1,by omega,by go_num,T1m,T2n,T3n,hBn⟩
    case measure=>simp[intOf];omega
  ·have hge:¬(p:Int)<96:=by omega
   obtain⟨L,hL⟩:=nam (bl (fun i=>f i || g i) 96);have hL2:bl (fun i=>if i<p then f i || g i else f i) 96=L:=by rw[hL];exact YR (fun i hi=>by simp[show i<p by omega])
   have hLl:L.length=96:=by rw[hL];exact Y7 _ _
   rw[hL2]at T1;have hrg:=T1.range;have hth:wr.there (w.heap.size+2) 0 96:=by have:=T3.there;rw[Y7]at this;exact this
   have hG:=Y6 (w.heap.size+2) L 0 wr;have hr':=World.rangeAt_setCells_same wr (w.heap.size+2) 0 L (by rw[hLl];exact hth);have hfin:=run_loadVar_mid (P:=Tryz.prog) (wr.setCells (w.heap.size+2) 0 L) (w.heap.size+2) 0 59 L _ hr' u_b rfl (by rw[hLl];exact Y2);obtain⟨W9,hW9⟩:=nam (wr.setCells (w.heap.size+2) 0 L);rw[<-hW9]at hG hfin;have HW9:=hyd hW9;have Hfin:=hyd hfin;have HO1:Hid (L.toArray.all (·.oneCell')=true):=by show _=true;rw[hL];exact YO _ _
   have HLl:=hyd hLl;have HL:=hyd hL;clear hW9 hr' hfin hL hLl T1 T2 T3 hL2;go_wp2_with (first|(refine wpList_load_mid rfl 59 _ rfl w.heap.size 0 rfl L _ hrg u_b rfl (by rw[HLl.out];exact Y2) ?_)|(refine wpList_store_mid rfl 59 _ _ rfl (w.heap.size+2) 0 L.toArray rfl rfl (by simpa[HLl.out]using hth) (by simpa[HLl.out]using Y2) HO1.out ?_;rw[List.toList_toArray,<-HW9.out]));refine bodyPost_ret (v:=.agg L.toArray) (res_load1 Tryz.results69 rfl Hfin.out) rfl ?_;exact⟨by rw[HL.out],hB.grown hG hB.size (fun q hq=>by cases hq;omega)⟩
theorem Bm.TC.setBools:∀(hs:List Bool) (o:Nat) (f:Nat->Bool) (w:World),o+hs.length<=n->TC b (bl f n) w->TC b (bl (fun j=>if o<=j/\j<o+hs.length then hs.getD (j-o) false else f j) n) (w.setCells b o (hs.map .bool))
 |[],o,f,w,_,h=>by
  have:bl (fun j=>if o<=j/\j<o+([]:List Bool).length then ([]:List Bool).getD (j-o) false else f j) n=bl f n:=YR (fun i _=>by
   have:¬(o<=i/\i<o+([]:List Bool).length):=by simp
   simp only[this,if_false])
  rw[this];exact h
 |x::hs,o,f,w,hl,h=>by
  have hl':o+(hs.length+1)<=n:=by simpa using hl
  have h1:=h.set o (by rw[Y7];omega) (.bool x);rw[UG]at h1;have h2:=Bm.TC.setBools hs (o+1) _ _ (by omega) h1;have e:bl (fun j=>if o<=j/\j<o+(x::hs).length then (x::hs).getD (j-o) false else f j) n=bl (fun j=>if o+1<=j/\j<o+1+hs.length then hs.getD (j-(o+1)) false else if j=o then x else f j) n:=YR (fun i _=>by
   simp only[List.length_cons];by_cases e1:i=o
   ·subst e1;rw[if_pos (by omega),if_neg (by omega)];simp
   ·by_cases e2:o+1<=i/\i<o+1+hs.length
    ·rw[if_pos (by omega),if_pos e2,show i-o=(i-(o+1))+1 by omega];simp
    ·rw[if_neg (by omega),if_neg e2,if_neg e1])
  rw[e];exact h2
theorem IN (f:Nat->Bool) (n:Nat):bl f n=((List.range n).map f).map .bool:=by simp[bl]
theorem Uz (w:World):(zeroValue 62).run Tryz.prog w=.ok (.agg (bl (fun _=>false) 104).toArray) w:=by kernel_rfl
theorem YB:(Tryz.prog.info? 62).map (·.size)=some 104:=by kernel_rfl
theorem Bm.TC.part {f:Nat->Bool} (h:TC b (bl f n) w) (hm:m<=n):TC b (bl f m) w:=fun k v hv=>by
 have hk:k<m:=by have:=(List.getElem?_eq_some_iff.1 hv).1;rw[Y7]at this;exact this
 rw[YK _ hk]at hv;exact h k v (by rw[YK _ (by omega)];exact hv)
theorem KO (f g:Nat->Bool) (w:World):
  Calls Tryz.prog 70 #[.agg (bl f 104).toArray,.agg (bl g 104).toArray] w fun e w'=>e=.returned (.agg (bl (fun i=>f i || g i) 104).toArray)/\Below w.heap.size w w':=by
 have hz:=Uz;obtain⟨W,hW⟩:=nam (((w.alloc (.cells (bl f 104).toArray 62)).alloc (.cells (bl g 104).toArray 62)).alloc (.cells (bl (fun _=>false) 104).toArray 62));have h1:(w.alloc (.cells (bl f 104).toArray 62)).heap.size=w.heap.size+1:=by simp
 have h2:((w.alloc (.cells (bl f 104).toArray 62)).alloc (.cells (bl g 104).toArray 62)).heap.size=w.heap.size+2:=by simp
 have T1:=TC.boxed w (bl f 104) 62;have T2:=TC.boxed (w.alloc (.cells (bl f 104).toArray 62)) (bl g 104) 62;have T3:=TC.boxed ((w.alloc (.cells (bl f 104).toArray 62)).alloc (.cells (bl g 104).toArray 62)) (bl (fun _=>false) 104) 62;rw[h1]at T2;rw[h2,<-hW]at T3;have x1:=box_bel w (.cells (bl f 104).toArray 62);have x2:=box_bel (w.alloc (.cells (bl f 104).toArray 62)) (.cells (bl g 104).toArray 62);have x3:=box_bel ((w.alloc (.cells (bl f 104).toArray 62)).alloc (.cells (bl g 104).toArray 62)) (.cells (bl (fun _=>false) 104).toArray 62);rw[<-hW]at x3;have T1':TC w.heap.size (bl f 104) W:=(T1.block (x2.block _ T1.ltB)).block (x3.block _ (by omega));have T2':TC (w.heap.size+1) (bl g 104) W:=T2.block (x3.block _ (by omega));have hB0:Below w.heap.size w W:=(x1.trans (x2.mono (by omega))).trans (x3.mono (by omega));clear T1 T2 x1 x2 x3 h1 h2;have r1:=(T1'.part (m:=96) (by omega)).range;have r2:=(T2'.part (m:=96) (by omega)).range;rw[hW]at r1 r2;go_enter Tryz.func70,Tryz.ntmps70;go_wp2_with (first|(refine wpList_load_mid rfl 59 _ rfl w.heap.size 0 rfl (bl f 96) _ r1 u_b rfl (by rw[Y7];exact Y2) ?_)|(refine wpList_load_mid rfl 59 _ rfl (w.heap.size+1) 0 rfl (bl g 96) _ r2 u_b rfl (by rw[Y7];exact Y2) ?_));rw[<-hW];clear hW r1 r2;refine Calls.mono (XS f g W) ?_;rintro e w1 ⟨rfl,hW1⟩;have T1:=T1'.block (hW1.block _ T1'.ltB);have T2:=T2'.block (hW1.block _ T2'.ltB);have T3':=T3.block (hW1.block _ T3.ltB);have hB1:=hB0.trans (hW1.mono hB0.size);clear T1' T2' T3 hB0 hW1;have hth:w1.there w.heap.size 0 96:=by have:=(T1.part (m:=96) (by omega)).there;rw[Y7]at this;exact this
 obtain⟨L,hL⟩:=nam (bl (fun i=>f i || g i) 96);have hLl:L.length=96:=by rw[hL];exact Y7 _ _
 have T1n:TC w.heap.size (bl (fun i=>if i<96 then f i || g i else f i) 104) (w1.setCells w.heap.size 0 L):=by
  have h:=T1.setBools ((List.range 96).map fun i=>f i || g i) 0 f w1 (by simp);rw[<-IN,<-hL]at h;rw[YR (fun i hi=>?_)]
  ·exact h
  ·by_cases e:i<96
   ·simp[e,List.getD_eq_getElem?_getD]
   ·simp[e]
 have hg:=Y6 w.heap.size L 0 w1;have T2n:=T2.block (hg.block _ T2.ltB (fun e=>by have:=Option.some.inj e;omega));have T3n:=T3'.block (hg.block _ T3'.ltB (fun e=>by have:=Option.some.inj e;omega));have hBn:=hB1.grown hg hB1.size (fun q hq=>by cases hq;exact Nat.le_refl _);have HO1:Hid (L.toArray.all (·.oneCell')=true):=by show _=true;rw[hL];exact YO _ _
 have HLl:=hyd hLl;obtain⟨W2,hW2⟩:=nam (w1.setCells w.heap.size 0 L);rw[<-hW2]at T1n T2n T3n hBn;have HW2:=hyd hW2;rw[<-hL];clear T1 T2 T3' hB1 hg hL hLl hW2;go_wp2_with (first|(refine wpList_store_mid rfl 59 _ _ rfl w.heap.size 0 L.toArray rfl rfl (by simpa[HLl.out]using hth) (by simpa[HLl.out]using Y2) HO1.out ?_;rw[List.toList_toArray,<-HW2.out]));clear hth HO1 HLl HW2
 go_loopw [5] (fun x w'=>∃r:Nat,r<=8/\x=.int .i64 r/\TC w.heap.size (bl (fun i=>if i<96+r then f i || g i else f i) 104) w'/\TC (w.heap.size+1) (bl g 104) w'/\TC (w.heap.size+2) (bl (fun _=>false) 104) w'/\Below w.heap.size w w') (fun x _=>8-(intOf x).toNat)
 case atStart=>exact⟨0,by omega,rfl,T1n,T2n,T3n,hBn⟩
 case round=>
  clear T1n T2n T3n hBn;obtain⟨r,hr,rfl,T1,T2,T3,hB⟩:=hrel;by_cases hlt:r<8
  ·have hlt':(r:Int)<8:=by omega
   obtain⟨c1,c1f⟩:=T1 (96+r) _ (YK _ (by omega));have c2:=(T2 (96+r) _ (YK _ (by omega))).1;simp only[Nat.lt_irrefl,if_false]at c1;have T1n:=T1.set (96+r) (by rw[Y7];omega) (.bool (f (96+r) || g (96+r)));rw[UG]at T1n;have T1m:TC w.heap.size (bl (fun i=>if i<96+(r+1) then f i || g i else f i) 104) (wr.setCell ⟨w.heap.size,96+r,none⟩ (.bool (f (96+r) || g (96+r)))):=by
    rw[YR (g:=fun j=>if j=96+r then f (96+r) || g (96+r) else if j<96+r then f j || g j else f j) (fun i _=>?_)]
    ·exact T1n
    ·by_cases e:i=96+r
     ·subst e;simp
     ·by_cases e1:i<96+r
      ·simp[e,e1,show i<96+(r+1) by omega]
      ·simp[e,e1,show ¬i<96+(r+1) by omega]
   have hb:∀k,k≠w.heap.size->(wr.setCell ⟨w.heap.size,96+r,none⟩ (.bool (f (96+r) || g (96+r)))).heap[k]?=wr.heap[k]?:=fun k hk=>Below.heap_setCell wr ⟨w.heap.size,96+r,none⟩ _ k (fun e=>hk e)
   have T2n:=T2.block (hb (w.heap.size+1) (by omega));have T3n:=T3.block (hb (w.heap.size+2) (by omega));have hBn:=hB.setCell (p:=⟨w.heap.size,96+r,none⟩) (Nat.le_refl _) (.bool (f (96+r) || g (96+r)));obtain⟨x,hx⟩:=nam (f (96+r));obtain⟨y,hy⟩:=nam (g (96+r));rw[<-hx]at c1 T1m T2n T3n hBn;rw[<-hy]at c2 T1m T2n T3n hBn;clear T1 T2 T3 hB T1n hb hx hy;cases x
   ·simp only[Bool.false_or]at T1m T2n T3n hBn;go_wp2_with fail;go_roundw
    case rel=>exact⟨r+1,by omega,by go_num,T1m,T2n,T3n,hBn⟩
    case measure=>simp[intOf];omega
   ·simp only[Bool.true_or]at T1m T2n T3n hBn;go_wp2_with fail;go_roundw
    case rel=>exact⟨r+1,by omega,by go_num,T1m,T2n,T3n,hBn⟩
    case measure=>simp[intOf];omega
  ·have hge:¬(r:Int)<8:=by omega
   obtain⟨L,hL⟩:=nam (bl (fun i=>f i || g i) 104);have hL2:bl (fun i=>if i<96+r then f i || g i else f i) 104=L:=by rw[hL];exact YR (fun i hi=>by simp[show i<96+r by omega])
   have hLl:L.length=104:=by rw[hL];exact Y7 _ _
   rw[hL2]at T1;have hrg:=T1.range;have hth:wr.there (w.heap.size+2) 0 104:=by have:=T3.there;rw[Y7]at this;exact this
   have hG:=Y6 (w.heap.size+2) L 0 wr;have hr':=World.rangeAt_setCells_same wr (w.heap.size+2) 0 L (by rw[hLl];exact hth);have hfin:=run_loadVar_mid (P:=Tryz.prog) (wr.setCells (w.heap.size+2) 0 L) (w.heap.size+2) 0 62 L _ hr' u_e rfl (by rw[hLl];exact YB);obtain⟨W9,hW9⟩:=nam (wr.setCells (w.heap.size+2) 0 L);rw[<-hW9]at hG hfin;have HW9:=hyd hW9;have Hfin:=hyd hfin;have HO1:Hid (L.toArray.all (·.oneCell')=true):=by show _=true;rw[hL];exact YO _ _
   have HLl:=hyd hLl;have HL:=hyd hL;clear hW9 hr' hfin hL hLl T1 T2 T3 hL2;go_wp2_with (first|(refine wpList_load_mid rfl 62 _ rfl w.heap.size 0 rfl L _ hrg u_e rfl (by rw[HLl.out];exact YB) ?_)|(refine wpList_store_mid rfl 62 _ _ rfl (w.heap.size+2) 0 L.toArray rfl rfl (by simpa[HLl.out]using hth) (by simpa[HLl.out]using YB) HO1.out ?_;rw[List.toList_toArray,<-HW9.out]));refine bodyPost_ret (v:=.agg L.toArray) (res_load1 Tryz.results70 rfl Hfin.out) rfl ?_;exact⟨by rw[HL.out],hB.grown hG hB.size (fun q hq=>by cases hq;omega)⟩
theorem SE (w:World):(zeroValue 78).run Tryz.prog w=.ok (.agg #[.slice none 0 0,.slice none 0 0]) w:=by
 go_simp
theorem XA:(Tryz.prog.info? 78).map (·.size)=some 2:=by kernel_rfl
structure FN (w:World) (vo vf:Value) (lo lf:List Int) (W:World):Prop where
 z:TC w.heap.size [.slice none 0 0,.slice none 0 0] W
 s:TC (w.heap.size+1) [vo,vf] W
 o:OwnL (w.heap.size+2) vo lo W
 f:OwnL (w.heap.size+2) vf lf W
 ne:∀k,vo.ownBlock=some k->vf.ownBlock≠some k
 b:Below w.heap.size w W
theorem FN.size (h:FN w vo vf lo lf W):w.heap.size+2<=W.heap.size:=by have:=h.s.lt;omega
theorem FN.below (h:FN w vo vf lo lf W) (hW:Below W.heap.size W W'):FN w vo vf lo lf W':=
 ⟨h.z.below hW,h.s.below hW,h.o.below hW,h.f.below hW,h.ne,h.b.trans (hW.mono h.b.size)⟩
theorem FN.putF {w:World}{vo vf:Value}{lo lf:List Int}{W W1 w5:World}{x:Int}{g cap:Nat}{ob:Obj} (h:FN w vo vf lo lf W) (hW1:W1=W.alloc ob)
  (h5:OwnL (w.heap.size+2) (.slice (some ⟨g,0,none⟩) (lf.length+1) cap) (lf++[x]) w5) (hg:W1.grownBy w5 vf.ownBlock) (hgb:vf.ownBlock=some g\/g=W1.heap.size):
  FN w vo (.slice (some ⟨g,0,none⟩) (lf.length+1) cap) lo (lf++[x]) (w5.setCell ⟨w.heap.size+1,1,none⟩ (.slice (some ⟨g,0,none⟩) (lf.length+1) cap)):=by
 have hs:=h.size;have x1:Below W.heap.size W W1:=by rw[hW1];exact box_bel _ _
 have hz1:W1.heap.size=W.heap.size+1:=by rw[hW1];simp
 have k1:=h.below x1;have hz5:=hg.size;have hb:∀k,k≠w.heap.size+1->(w5.setCell ⟨w.heap.size+1,1,none⟩ (.slice (some ⟨g,0,none⟩) (lf.length+1) cap)).heap[k]?=w5.heap[k]?:=fun k hk=>Below.heap_setCell w5 ⟨w.heap.size+1,1,none⟩ _ k (fun e=>hk e)
 have hfb:=h.f.blk;have hg2:w.heap.size+2<=g:=(h5.blk g rfl).1;refine⟨?_,?_,?_,?_,?_,?_⟩
 ·refine(k1.z.block (hg.block _ (by omega) (fun e=>?_))).block (hb _ (by omega));have:=(hfb _ e.symm).1;omega
 ·exact(k1.s.block (hg.block _ (by omega) (fun e=>by have:=(hfb _ e.symm).1;omega))).set 1 (by simp) _
 ·exact(k1.o.grown hg (fun k hk e=>h.ne k hk e)).keep (fun k hk=>hb k (by have:=(h.o.blk k hk).1;omega))
 ·exact h5.keep (fun k hk=>hb k (by cases hk;show g≠_;omega))
 ·intro k hk e;have e2:g=k:=Option.some.inj e;have hk2:=h.o.blk k hk;rcases hgb with h1|h1
  ·rw[e2]at h1;exact h.ne k hk h1
  ·omega
 ·exact(k1.b.grown hg (by omega) (fun q hq=>by have:=(hfb q hq).1;omega)).setCell (p:=⟨w.heap.size+1,1,none⟩) (Nat.le_succ _) _
theorem FN.putO {w:World}{vo vf:Value}{lo lf:List Int}{W W1 w5:World}{x:Int}{g cap:Nat}{ob:Obj} (h:FN w vo vf lo lf W) (hW1:W1=W.alloc ob)
  (h5:OwnL (w.heap.size+2) (.slice (some ⟨g,0,none⟩) (lo.length+1) cap) (lo++[x]) w5) (hg:W1.grownBy w5 vo.ownBlock) (hgb:vo.ownBlock=some g\/g=W1.heap.size):
  FN w (.slice (some ⟨g,0,none⟩) (lo.length+1) cap) vf (lo++[x]) lf (w5.setCell ⟨w.heap.size+1,0,none⟩ (.slice (some ⟨g,0,none⟩) (lo.length+1) cap)):=by
 have hs:=h.size;have x1:Below W.heap.size W W1:=by rw[hW1];exact box_bel _ _
 have hz1:W1.heap.size=W.heap.size+1:=by rw[hW1];simp
 have k1:=h.below x1;have hz5:=hg.size;have hb:∀k,k≠w.heap.size+1->(w5.setCell ⟨w.heap.size+1,0,none⟩ (.slice (some ⟨g,0,none⟩) (lo.length+1) cap)).heap[k]?=w5.heap[k]?:=fun k hk=>Below.heap_setCell w5 ⟨w.heap.size+1,0,none⟩ _ k (fun e=>hk e)
 have hfb:=h.o.blk;have hg2:w.heap.size+2<=g:=(h5.blk g rfl).1;refine⟨?_,?_,?_,?_,?_,?_⟩
 ·refine(k1.z.block (hg.block _ (by omega) (fun e=>?_))).block (hb _ (by omega));have:=(hfb _ e.symm).1;omega
 ·exact(k1.s.block (hg.block _ (by omega) (fun e=>by have:=(hfb _ e.symm).1;omega))).set 0 (by simp) _
 ·exact h5.keep (fun k hk=>hb k (by cases hk;show g≠_;omega))
 ·exact(k1.f.grown hg (fun k hk e=>h.ne k e hk)).keep (fun k hk=>hb k (by have:=(h.f.blk k hk).1;omega))
 ·intro k hk e;have e2:g=k:=Option.some.inj hk;have hk2:=h.f.blk k e;rcases hgb with h1|h1
  ·rw[e2]at h1;exact h.ne k h1 e
  ·omega
 ·exact(k1.b.grown hg (by omega) (fun q hq=>by have:=(hfb q hq).1;omega)).setCell (p:=⟨w.heap.size+1,0,none⟩) (Nat.le_succ _) _
def V4 (E:Nat->Nat->Bool) (n:Nat):List Int:=(List.range n).map (idxI E)
def YP (E:Nat->Nat->Bool) (n:Nat):List Int:=(reps E n).map fun(a:Nat)=>(a:Int)
theorem Tf (E:Nat->Nat->Bool) (n:Nat):V4 E (n+1)=V4 E n++[idxI E n]:=by simp[V4,List.range_succ]
theorem XL (E:Nat->Nat->Bool) (n:Nat):(V4 E n).length=n:=by simp[V4]
theorem YE (E:Nat->Nat->Bool) (n:Nat):(YP E n).length=cnt E n:=by simp[YP,cnt]
theorem VJ (E:Nat->Nat->Bool) (n:Nat):YP E (n+1)=YP E n++if least E n=n then [(n:Int)] else []:=by
 unfold YP;rw[reps_succ,List.map_append];split<;>rfl
def SO (E:Nat->Nat->Bool) (n:Nat) (w:World) (e:Ending) (w':World):Prop:=
 ∃vo vf,e=.returned (.agg #[vo,vf])/\OwnL w.heap.size vo (V4 E n) w'/\OwnL w.heap.size vf (YP E n) w'/\(∀k,vo.ownBlock=some k->vf.ownBlock≠some k)/\Below w.heap.size w w'
theorem Kt (gb:Nat) (A:Aut) (ta:Option Addr) (tc:Nat) (sv:Value) (oa:Option Addr) (oc:Nat) (of:Nat->Int) (w:World) (hA:Aut.Small A) (hr:∀s k,s<A.N->k<A.K->-1<=A.to s k/\A.to s k<A.N) (hG:Gr gb A ta tc sv w) (hO:IL oa of A.N w):
  Calls Tryz.prog 44 #[.pointer (some ⟨gb,0,none⟩),.slice oa A.N oc] w (SO (Tg A of) A.N w):=by
 have hz:=SE;have hn:=hA.n;have HC:Hid (∀(a b:Nat) (w':World),a<A.N->b<A.N->Below w.heap.size w w'->Calls Tryz.prog 71 #[.pointer (some ⟨gb,0,none⟩),.slice oa A.N oc,.int .i64 a,.int .i64 b] w' fun e w''=>e=.returned (.bool (Tg A of a b))/\Below w'.heap.size w' w''):=fun a b w' ha hb h'=>Pe gb A ta tc sv oa oc of a b w' hA hr (hG.below h') (hO.below h') ha hb
 have HE:=hyd (Tg_eqv A of A.N);clear hG hO hr hA;generalize Tg A of=E at *;obtain⟨W,hW⟩:=nam ((w.alloc (.cells #[.slice none 0 0,.slice none 0 0] 78)).alloc (.cells #[.slice none 0 0,.slice none 0 0] 78));have S0:FN w (.slice none 0 0) (.slice none 0 0) (V4 E 0) (YP E 0) W:=by
  have hs1:(w.alloc (.cells #[.slice none 0 0,.slice none 0 0] 78)).heap.size=w.heap.size+1:=by simp
  rw[hW];refine⟨(TC.boxed w [.slice none 0 0,.slice none 0 0] _).below (box_bel _ _),?_,OwnL.nil _ _,OwnL.nil _ _,fun k hk=>(by cases hk),(box_bel w _).trans ((box_bel _ _).mono (by simp))⟩;rw[<-hs1];exact TC.boxed _ [.slice none 0 0,.slice none 0 0] _
 go_enter Tryz.func44,Tryz.ntmps44;go_wp2_with fail;rw[<-hW];clear hW
 go_loopw [6] (fun x w'=>∃(a:Nat) (vo vf:Value),a<=A.N/\x=.int .i64 a/\FN w vo vf (V4 E a) (YP E a) w') (fun x _=>A.N-(intOf x).toNat)
 case atStart=>exact⟨0,_,_,by omega,rfl,S0⟩
 case round=>
  clear S0;obtain⟨a,vo,vf,ha,rfl,S⟩:=hrel;by_cases hlt:a<A.N
  ·have hlt':(a:Int)<(A.N:Int):=by omega
   obtain⟨fa,fc,hvf,_⟩:=S.f.il;obtain⟨va,vc,hvo,_⟩:=S.o.il;subst hvf;subst hvo;rw[YE]at S;rw[XL]at S;have hnew:=rep_new HE.out hlt;have hcl:=cnt_le E a;obtain⟨id,hid⟩:=nam (idx E a);rw[<-hid]at hnew;have Hid1:=hyd hid;clear hid;obtain⟨c,hc⟩:=nam (cnt E a);have Hc:=hyd hc;rw[<-hc]at hnew hcl S;clear hc;have HNew:=hyd hnew.1;have hidc:=hnew.2;clear hnew;go_wp2_with fail
   go_loopw [7] (fun x w'=>∃j:Nat,j<=id/\x=.int .i64 j/\FN w (.slice va a vc) (.slice fa c fc) (V4 E a) (YP E a) w') (fun x _=>c-(intOf x).toNat)
   case atStart=>exact⟨0,by omega,rfl,S⟩
   case round=>
    clear S;obtain⟨j,hj,rfl,S⟩:=hrel;have c1:=(S.s 1 _ rfl).1;have c0:=(S.s 0 _ rfl).1;by_cases hjc:j<c
    ·have hjc':(j:Int)<c:=by omega
     obtain⟨r,hr⟩:∃r,(reps E a)[j]?=some r:=⟨(reps E a)[j]'(by have:=Hc.out;unfold cnt at this;omega),List.getElem?_eq_getElem _⟩;have hrm:=reps_mem hr;have hlk:=rep_like HE.out hlt hr;rw[<-Hid1.out]at hlk;obtain⟨ad2,cap2,hv2,il2⟩:=S.f.il;have hv3:=(Value.slice.inj hv2).1;rw[<-hv3]at il2;obtain⟨fb_,fo_,hfa,c2⟩:=il2 j (by rw[YE,<-Hc.out];exact hjc);subst hfa;clear hv3;have hgd:(YP E a).getD j 0=(r:Int):=by simp[YP,List.getD_eq_getElem?_getD,hr]
     simp only[hgd]at c2;have HCr:=HC.out r a wr (by omega) hlt S.b;have HCr1:Hid (Calls Tryz.prog 71 #[.pointer (some ⟨gb,0,none⟩),.slice oa A.N oc,.int .i64 r,.int .i64 a] wr fun e w''=>e=.returned (.bool (E r a))/\Below wr.heap.size wr w''):=HCr;have Hlk:=hyd hlk;clear HCr hlk hr hrm hv2 il2 hgd;go_wp2_with fail;refine HCr1.out.mono ?_;rintro e w2 ⟨rfl,hW2⟩;have S2:=S.below hW2;clear S c0 c1 c2 HCr1 hW2;cases hE:E r a
     ·have hne:j≠id:=fun e=>by have:=Hlk.out.2 e;rw[hE]at this;cases this
      go_wp2_with fail;go_roundw
      case rel=>exact⟨j+1,by omega,by go_num,S2⟩
      case measure=>simp[intOf];omega
     ·have hji:=Hlk.out.1 hE;subst hji;have hold:least E a≠a:=fun e=>by have:=HNew.out.2 e;omega
      have q1:((j:Int)==(c:Int))=false:=by simp;omega
      have c1:=(S2.s 1 _ rfl).1;have c0:=(S2.s 0 _ rfl).1;have hx:=box_bel w2 (.cells #[.int .i64 (j:Int)] 3);have hO1:=S2.o.below hx;have hnw:(w2.alloc (.cells #[.int .i64 (j:Int)] 3)).cell? ⟨w2.heap.size,0,none⟩=some (.int .i64 (j:Int)):=by rw[World.cell?_alloc_new];rfl
      have hbs:=Nat.le_trans S2.size hx.size;have HK:Hid (∀w5,(w2.alloc (.cells #[.int .i64 (j:Int)] 3)).grownBy w5 (Value.slice va a vc).ownBlock->TC (w.heap.size+1) [.slice va a vc,.slice (some ⟨fb_,fo_,none⟩) c fc] w5):=fun w5 hg=>
       (S2.s.below hx).block (hg.block _ (by have:=S2.size;have:=hx.size;omega) (fun e=>by have:=(S2.o.blk _ e.symm).1;omega))
      have HS2:=hyd S2;have Hold:=hyd hold;clear S2 hx hold;go_wp2_with (first|(at_builtin;refine wpList_append_int (by rfl) _ _ (by rfl) (w.heap.size+2) (.slice va a vc) (V4 E a) (by rfl) hO1 (by rw[XL];omega) w2.heap.size (j:Int) (by rfl) hnw hbs _ rfl ?_;intro g cap w5 hO5 hgrow hgb hl5;have c5:=(HK.out w5 hgrow 0 _ rfl).1;have c5f:=(HK.out w5 hgrow 0 _ rfl).2));have S3:=HS2.out.putO rfl hO5 hgrow hgb;have e1:V4 E a++[(j:Int)]=V4 E (a+1):=by rw[Tf];unfold idxI;rw[<-Hid1.out]
      have e2:YP E (a+1)=YP E a:=by rw[VJ,if_neg Hold.out,List.append_nil]
      rw[e1,<-e2,XL]at S3;rw[XL];go_roundw
      case rel=>exact⟨a+1,_,_,by omega,by go_num,S3⟩
      case measure=>simp[intOf];omega
    ·have hge:¬(j:Int)<c:=by omega
     have hjc2:c=j:=by omega
     have hic:id=c:=by omega
     have hnw2:=HNew.out.1 hic;have HIc:=hyd hic;clear hge hic hj hidc HNew;subst hjc2;have hge:¬(c:Int)<c:=by omega
     have q1:((c:Int)==(c:Int))=true:=by simp
     have hx:=box_bel wr (.cells #[.int .i64 (a:Int)] 3);have hO1:=S.f.below hx;have hnw:(wr.alloc (.cells #[.int .i64 (a:Int)] 3)).cell? ⟨wr.heap.size,0,none⟩=some (.int .i64 (a:Int)):=by rw[World.cell?_alloc_new];rfl
     have hbs:=Nat.le_trans S.size hx.size;have HK:Hid (∀w5,(wr.alloc (.cells #[.int .i64 (a:Int)] 3)).grownBy w5 (Value.slice fa c fc).ownBlock->TC (w.heap.size+1) [.slice va a vc,.slice fa c fc] w5):=fun w5 hg=>
      (S.s.below hx).block (hg.block _ (by have:=S.size;have:=hx.size;omega) (fun e=>by have:=(S.f.blk _ e.symm).1;omega))
     have HS2:=hyd S;have Hold:=hyd hnw2;clear S hx hnw2;have hfl:=YE E a;rw[<-Hc.out]at hfl;have Hfl:=hyd hfl;clear hfl;have HX:Hid (∀g cap w5,OwnL (w.heap.size+2) (.slice (some ⟨g,0,none⟩) (c+1) cap) (YP E a++[(a:Int)]) w5->(wr.alloc (.cells #[.int .i64 (a:Int)] 3)).grownBy w5 (Value.slice fa c fc).ownBlock->((Value.slice fa c fc).ownBlock=some g\/g=(wr.alloc (.cells #[.int .i64 (a:Int)] 3)).heap.size) ->
       FN w (.slice va a vc) (.slice (some ⟨g,0,none⟩) (c+1) cap) (V4 E a) (YP E a++[(a:Int)]) (w5.setCell ⟨w.heap.size+1,1,none⟩ (.slice (some ⟨g,0,none⟩) (c+1) cap))):=fun g cap w5 h1 h2 h3=>by
      have h:=HS2.out.putF (x:=(a:Int)) (g:=g) (cap:=cap) rfl (by rw[Hfl.out];exact h1) h2 h3;rw[Hfl.out]at h;exact h
     have HK2:Hid (∀(g cap:Nat) (w5:World),FN w (.slice va a vc) (.slice (some ⟨g,0,none⟩) (c+1) cap) (V4 E a) (YP E a++[(a:Int)]) (w5.setCell ⟨w.heap.size+1,1,none⟩ (.slice (some ⟨g,0,none⟩) (c+1) cap)) ->
       OwnL (w.heap.size+2) (.slice va a vc) (V4 E a) ((w5.setCell ⟨w.heap.size+1,1,none⟩ (.slice (some ⟨g,0,none⟩) (c+1) cap)).alloc (.cells #[.int .i64 (c:Int)] 3)) /\
       ((w5.setCell ⟨w.heap.size+1,1,none⟩ (.slice (some ⟨g,0,none⟩) (c+1) cap)).alloc (.cells #[.int .i64 (c:Int)] 3)).cell? ⟨w5.heap.size,0,none⟩=some (.int .i64 (c:Int)) /\
       w.heap.size+2<=((w5.setCell ⟨w.heap.size+1,1,none⟩ (.slice (some ⟨g,0,none⟩) (c+1) cap)).alloc (.cells #[.int .i64 (c:Int)] 3)).heap.size /\
       ∀w7,((w5.setCell ⟨w.heap.size+1,1,none⟩ (.slice (some ⟨g,0,none⟩) (c+1) cap)).alloc (.cells #[.int .i64 (c:Int)] 3)).grownBy w7 (Value.slice va a vc).ownBlock->TC (w.heap.size+1) [.slice va a vc,.slice (some ⟨g,0,none⟩) (c+1) cap] w7):=fun g cap w5 hF=>by
      have hsz:(w5.setCell ⟨w.heap.size+1,1,none⟩ (.slice (some ⟨g,0,none⟩) (c+1) cap)).heap.size=w5.heap.size:=by simp[World.setCell]
      generalize w5.setCell ⟨w.heap.size+1,1,none⟩ (.slice (some ⟨g,0,none⟩) (c+1) cap)=W5 at *;have hx:=box_bel W5 (.cells #[.int .i64 (c:Int)] 3);refine⟨hF.o.below hx,by rw[<-hsz,World.cell?_alloc_new];rfl,Nat.le_trans hF.size hx.size,fun w7 hg=>?_⟩;exact(hF.s.below hx).block (hg.block _ (by have:=hF.size;have:=hx.size;omega) (fun e=>by have:=(hF.o.blk _ e.symm).1;omega))
     go_wp2_with (first|(at_builtin;refine wpList_append_int (by rfl) _ _ (by rfl) (w.heap.size+2) (.slice fa c fc) (YP E a) (by rfl) hO1 (by rw[Hfl.out];omega) wr.heap.size (a:Int) (by rfl) hnw hbs _ rfl ?_;rw[Hfl.out];intro g cap w5 hO5 hgrow hgb hl5;have c5:=(HK.out w5 hgrow 1 _ rfl).1;have c5f:=(HK.out w5 hgrow 1 _ rfl).2;have S5:=HX.out g cap w5 hO5 hgrow hgb;have c6:=(S5.s 0 _ rfl).1;obtain⟨hO6,hn6,hb6,hk6⟩:=HK2.out g cap w5 S5;have Hk6:Hid (∀w7,((w5.setCell ⟨w.heap.size+1,1,none⟩ (.slice (some ⟨g,0,none⟩) (c+1) cap)).alloc (.cells #[.int .i64 (c:Int)] 3)).grownBy w7 (Value.slice va a vc).ownBlock->TC (w.heap.size+1) [.slice va a vc,.slice (some ⟨g,0,none⟩) (c+1) cap] w7):=hk6;clear hk6)|(at_builtin;refine wpList_append_int (by rfl) _ _ (by rfl) (w.heap.size+2) (.slice va a vc) (V4 E a) (by rfl) hO6 (by rw[XL];omega) w5.heap.size (c:Int) (by rfl) hn6 hb6 _ rfl ?_;intro g2 cap2 w7 hO7 hgrow7 hgb7 hl7;have c7:=(Hk6.out w7 hgrow7 0 _ rfl).1;have c7f:=(Hk6.out w7 hgrow7 0 _ rfl).2));have S7:=S5.putO rfl hO7 hgrow7 hgb7;have e1:V4 E a++[(c:Int)]=V4 E (a+1):=by rw[Tf];unfold idxI;rw[<-Hid1.out,HIc.out]
     have e2:YP E a++[(a:Int)]=YP E (a+1):=by rw[VJ,if_pos Hold.out]
     rw[e1,e2,XL]at S7;rw[XL];go_roundw
     case rel=>exact⟨a+1,_,_,by omega,by go_num,S7⟩
     case measure=>simp[intOf];omega
  ·have hge:¬(a:Int)<(A.N:Int):=by omega
   have haN:a=A.N:=by omega
   have hrg:=S.s.range;have hth:=S.z.there;have hG:=Y6 w.heap.size [vo,vf] 0 wr;have hr':=World.rangeAt_setCells_same wr w.heap.size 0 [vo,vf] hth;have hfin:=run_loadVar_mid (P:=Tryz.prog) (wr.setCells w.heap.size 0 [vo,vf]) w.heap.size 0 78 [vo,vf] _ hr' u_j rfl XA;obtain⟨W9,hW9⟩:=nam (wr.setCells w.heap.size 0 [vo,vf]);rw[<-hW9]at hG hfin;have HW9:=hyd hW9;have Hfin:=hyd hfin;have HO1:Hid (vo.oneCell'=true/\vf.oneCell'=true):=by
    obtain⟨a1,c1,h1,_⟩:=S.o.il;obtain⟨a2,c2,h2,_⟩:=S.f.il;rw[h1,h2];exact⟨rfl,rfl⟩
   clear hW9 hr' hfin;go_wp2_with (first|(refine wpList_load_mid rfl 78 _ rfl (w.heap.size+1) 0 rfl [vo,vf] _ hrg u_j rfl XA ?_)|(refine wpList_store_mid rfl 78 _ _ rfl w.heap.size 0 #[vo,vf] rfl rfl hth XA (by simp[HO1.out.1,HO1.out.2]) ?_;rw[List.toList_toArray,<-HW9.out]));refine bodyPost_ret (v:=.agg #[vo,vf]) (res_load1 Tryz.results44 rfl Hfin.out) rfl ?_;rw[haN]at S;refine⟨vo,vf,rfl,(S.o.grown hG (fun k hk e=>?_)).mono (by omega),(S.f.grown hG (fun k hk e=>?_)).mono (by omega),S.ne,S.b.grown hG S.b.size (fun q hq=>by cases hq;exact Nat.le_refl _)⟩
   ·have:=(S.o.blk k hk).1;have:=Option.some.inj e;omega
   ·have:=(S.f.blk k hk).1;have:=Option.some.inj e;omega
def Vf (f:Nat->Bool):Nat->Nat->Int
 |0,_=>-1
 |u+1,r=>if f r then (r:Int) else Vf f u (r+1)
theorem MQ (f:Nat->Bool):∀u r,-1<=Vf f u r/\Vf f u r<(u+r:Nat)
 |0,r=>by unfold Vf;omega
 |u+1,r=>by
  have:=MQ f u (r+1);rw[Vf];split<;>omega
theorem Sg (b o:Nat) (f:Nat->Bool) (w:World) (h:∀r,r<8->w.cell? ⟨b,o+96+r,none⟩=some (.bool (f r))):
  Calls Tryz.prog 43 #[.pointer (some ⟨b,o,none⟩)] w fun e w'=>e=.returned (.int .i64 (Vf f 8 0))/\w'=w:=by
 obtain⟨R,hR⟩:=nam (Vf f 8 0);rw[<-hR];have HR:=hyd hR;have H:=hyd h;clear hR h;go_enter Tryz.func43,Tryz.ntmps43;go_wp2_with fail
 go_loopw [3] (fun x w'=>∃(u r:Nat),u+r=8/\x=.int .i64 r/\Hid (R=Vf f u r)/\w'=w) (fun x _=>8-(intOf x).toNat)
 case atStart=>exact⟨8,0,rfl,rfl,HR,rfl⟩
 case round=>
  clear HR;obtain⟨u,r,hu,rfl,HR,rfl⟩:=hrel;by_cases hlt:r<8
  ·have hlt':(r:Int)<8:=by omega
   rcases u with _|u
   ·omega
   have c:=H.out r hlt;cases hf:f r
   ·rw[hf]at c;have HR1:Hid (R=Vf f u (r+1)):=by show _=_;rw[HR.out,Vf,hf];rfl
    clear HR hf;go_wp2_with fail;go_roundw
    case rel=>exact⟨u,r+1,by omega,by go_num,HR1,trivial⟩
    case measure=>simp[intOf];omega
   ·rw[hf]at c;have HR1:Hid (R=r):=by show _=_;rw[HR.out,Vf,hf];rfl
    clear HR hf;go_wp2_with fail;go_ret;exact⟨YS HR1.out.symm,rfl⟩
  ·have hge:¬(r:Int)<8:=by omega
   have hu0:u=0:=by omega
   subst hu0;have HR1:Hid (R=-1):=HR;go_wp2_with fail;go_ret;exact⟨YS HR1.out.symm,rfl⟩
def SR (sa:Option Addr) (rl:Nat->Nat->Bool) (n:Nat) (w:World):Prop:=∀i,i<n->∃b off,sa=some ⟨b,off,none⟩/\∀r,r<8->w.cell? ⟨b,off+i*104+96+r,none⟩=some (.bool (rl i r))
theorem SR.below {sa:Option Addr}{rl:Nat->Nat->Bool} (h:SR sa rl n w) (hW:Below w.heap.size w w'):SR sa rl n w':=fun i hi=>by
 obtain⟨b,off,e,hc⟩:=h i hi;refine⟨b,off,e,fun r hr=>?_⟩;rw[hW.cell (p:=⟨b,off+i*104+96+r,none⟩) (World.block_lt_of_cell? w _ (hc r hr))];exact hc r hr
theorem IL.congr {g:Nat->Int} (h:IL ad f n w) (e:∀i,i<n->f i=g i):IL ad g n w:=fun i hi=>by
 obtain⟨b,off,h1,h2⟩:=h i hi;exact⟨b,off,h1,by rw[<-e i hi];exact h2⟩
theorem FN.putB {vo' vf':Value} (h:FN w vo vf lo lf W) (ho:OwnL (w.heap.size+2) vo' lo' W) (hf:OwnL (w.heap.size+2) vf' lf' W) (hne:∀k,vo'.ownBlock=some k->vf'.ownBlock≠some k):
  FN w vo' vf' lo' lf' (W.setCells (w.heap.size+1) 0 [vo',vf']):=by
 have hg:=Y6 (w.heap.size+1) [vo',vf'] 0 W;have hs:=h.size;refine⟨h.z.block (hg.block _ (by omega) (fun e=>by have:=Option.some.inj e;omega)),?_,ho.grown hg (fun k hk e=>?_),hf.grown hg (fun k hk e=>?_),hne,h.b.grown hg h.b.size (fun q hq=>by cases hq;omega)⟩
 ·intro k v hv;have h1:=World.rangeAt_setCells_same W (w.heap.size+1) 0 [vo',vf'] h.s.there k v hv;have hk:=(List.getElem?_eq_some_iff.1 hv).1;have h2:=(h.s.there k hk).2;rw[Nat.zero_add]at h1 h2;exact⟨h1,by rw[World.frozen?_setCells];exact h2⟩
 ·have:=(ho.blk k hk).1;have:=Option.some.inj e;omega
 ·have:=(hf.blk k hk).1;have:=Option.some.inj e;omega
def JZ (A:Aut) (n:Nat):List Int:=(List.range n).map fun i=>A.vd i+1
theorem JW (A:Aut) (n:Nat):JZ A (n+1)=JZ A n++[A.vd n+1]:=by simp[JZ,List.range_succ]
theorem Tu (A:Aut) (n:Nat):(JZ A n).length=n:=by simp[JZ]
def U5 (A:Aut) (g:Int) (lo lf:List Int):Prop:=
 (g=-1/\lo=JZ A A.N/\lf=[])\/(g=0/\lo=V4 (Tg A fun a=>A.vd a+1) A.N/\lf=YP (Tg A fun a=>A.vd a+1) A.N) \/
 ∃E,Part A E/\g=cnt E A.N/\lo=V4 (Tg A (idxI E)) A.N/\lf=YP (Tg A (idxI E)) A.N
theorem GX (h:0<n):0<cnt E n:=by
 have h1:=cnt_mono E (show 1<=n from h);have h2:least E 0=0:=by have:=least_le E 0;omega
 have h3:cnt E 1=cnt E 0+1:=by have:=cnt_succ E 0;rw[if_pos h2]at this;exact this
 omega
variable {A:Aut}
theorem U5.step (hA:A.Good) {g:Int}{lo lf:List Int} (h:U5 A g lo lf):∃of:Nat->Int,(∀i,i<A.N->lo.getD i 0=of i)/\lo.length=A.N/\U5 A lf.length (V4 (Tg A of) A.N) (YP (Tg A of) A.N):=by
 have hg:∀E,∀i,i<A.N->(V4 E A.N).getD i 0=idxI E i:=fun E i hi=>by simp[V4,List.getD_eq_getElem?_getD,hi]
 rcases h with ⟨rfl,rfl,rfl⟩|⟨rfl,rfl,rfl⟩|⟨E,hE,rfl,rfl,rfl⟩
 ·exact⟨fun a=>A.vd a+1,fun i hi=>by simp[JZ,List.getD_eq_getElem?_getD,hi],Tu _ _,Or.inr (Or.inl ⟨rfl,rfl,rfl⟩)⟩
 ·exact⟨idxI (Tg A fun a=>A.vd a+1),hg _,XL _ _,Or.inr (Or.inr ⟨_,Part.first hA,by rw[YE],rfl,rfl⟩)⟩
 ·exact⟨idxI (Tg A (idxI E)),hg _,XL _ _,Or.inr (Or.inr ⟨_,(hE.next hA).1,by rw[YE],rfl,rfl⟩)⟩
theorem U5.done (hA:A.Good) (hN:0<A.N) {g:Int}{lo lf:List Int} (h:U5 A g lo lf) (hd:(lf.length:Int)<=g):lo=V4 (alB A) A.N/\lf=YP (alB A) A.N:=by
 rcases h with ⟨rfl,rfl,rfl⟩|⟨rfl,rfl,rfl⟩|⟨E,hE,rfl,rfl,rfl⟩
 ·simp at hd
 ·rw[YE]at hd;have:=GX (E:=Tg A fun a=>A.vd a+1) hN;omega
 ·rw[YE]at hd;have hst:=hE.stable hA (by omega);have hE2:=Tg_eqv A (idxI E) A.N;have hE3:=alB_eqv A A.N;have hq:∀a b,a<A.N->b<A.N->(Tg A (idxI E) a b=true<->alB A a b=true):=fun a b ha hb=>by rw[alB_iff];exact hst a b ha hb
  refine⟨?_,?_⟩
  ·unfold V4;refine List.map_congr_left (fun i hi=>?_);show((idx (Tg A (idxI E)) i:Nat):Int)=((idx (alB A) i:Nat):Int);rw[idx_congr hE2 hE3 hq (by simpa using hi)]
  ·unfold YP;rw[reps_congr hE2 hE3 hq _ (Nat.le_refl _)]
theorem U5.lt {g:Int} (h:U5 A g lo lf):lf.length<=A.N/\-1<=g:=by
 rcases h with ⟨rfl,rfl,rfl⟩|⟨rfl,rfl,rfl⟩|⟨E,hE,rfl,rfl,rfl⟩
 ·simp
 ·rw[YE];have:=cnt_le (Tg A fun a=>A.vd a+1) A.N;omega
 ·rw[YE];have:=cnt_le (Tg A (idxI E)) A.N;omega
theorem J4 (gb:Nat) (A:Aut) (ta:Option Addr) (tc:Nat) (sa:Option Addr) (sc:Nat) (rl:Nat->Nat->Bool) (w:World) (hA:Aut.Small A) (hGd:A.Good) (hN:0<A.N) (hG:Gr gb A ta tc (.slice sa A.N sc) w) (hS:SR sa rl A.N w) (hv:∀i,i<A.N->A.vd i=Vf (rl i) 8 0):
  Calls Tryz.prog 18 #[.pointer (some ⟨gb,0,none⟩)] w (SO (alB A) A.N w):=by
 have hz:=SE;have hn:=hA.n;have HF:Hid (∀(oa:Option Addr) (oc:Nat) (of:Nat->Int) (w':World),Below w.heap.size w w'->IL oa of A.N w'->Calls Tryz.prog 44 #[.pointer (some ⟨gb,0,none⟩),.slice oa A.N oc] w' (SO (Tg A of) A.N w')):=fun oa oc of w' h' hO=>Kt gb A ta tc _ oa oc of w' hA hGd.rng (hG.below h') hO
 have HG:Hid (∀w',Below w.heap.size w w'->w'.cell? ⟨gb,1,none⟩=some (.slice sa A.N sc)):=fun w' h'=>(hG.below h').c1
 have HS:Hid (∀w',Below w.heap.size w w'->SR sa rl A.N w'):=fun w' h'=>hS.below h'
 have HV:=hyd hv;have HGd:Hid A.Good:=hGd;clear hG hS hA hGd hv;obtain⟨W,hW⟩:=nam ((w.alloc (.cells #[.slice none 0 0,.slice none 0 0] 78)).alloc (.cells #[.slice none 0 0,.slice none 0 0] 78));have S0:FN w (.slice none 0 0) (.slice none 0 0) (JZ A 0) [] W:=by
  have hs1:(w.alloc (.cells #[.slice none 0 0,.slice none 0 0] 78)).heap.size=w.heap.size+1:=by simp
  rw[hW];refine⟨(TC.boxed w [.slice none 0 0,.slice none 0 0] _).below (box_bel _ _),?_,OwnL.nil _ _,OwnL.nil _ _,fun k hk=>(by cases hk),(box_bel w _).trans ((box_bel _ _).mono (by simp))⟩;rw[<-hs1];exact TC.boxed _ [.slice none 0 0,.slice none 0 0] _
 go_enter Tryz.func18,Tryz.ntmps18;go_wp2_with fail;rw[<-hW];clear hW
 go_loopw [4] (fun x w'=>∃(a:Nat) (vo:Value),a<=A.N/\x=.int .i64 a/\FN w vo (.slice none 0 0) (JZ A a) [] w') (fun x _=>A.N-(intOf x).toNat)
 case atStart=>exact⟨0,_,by omega,rfl,S0⟩
 case round=>
  clear S0;obtain⟨a,vo,ha,rfl,S⟩:=hrel;have c1:=HG.out wr S.b;by_cases hlt:a<A.N
  ·have hlt':(a:Int)<(A.N:Int):=by omega
   obtain⟨b,off,hsa,hr⟩:=HS.out wr S.b a hlt;have HVd:Hid (Calls Tryz.prog 43 #[.pointer (some ⟨b,off+a*104,none⟩)] wr fun e w'=>e=.returned (.int .i64 (A.vd a))/\w'=wr):=by
    rw[HV.out a hlt];exact Sg b (off+a*104) (rl a) wr hr
   have hvb:-1<=A.vd a/\A.vd a<8:=by rw[HV.out a hlt];have:=MQ (rl a) 8 0;omega
   have S1:=hyd S;clear hr S;rw[hsa]at c1;go_wp2_with fail;refine HVd.out.mono ?_;rintro e wr ⟨rfl,rfl⟩;clear HVd c1;obtain⟨va,vc,hvo,_⟩:=S1.out.o.il;rw[Tu]at hvo;subst hvo;obtain⟨y,hy⟩:=nam (A.vd a+1);have iy:=hy.symm;have Hy:=hyd hy;have S2:=S1.out;have c0:=(S2.s 0 _ rfl).1;have hx:=box_bel wr (.cells #[.int .i64 y] 3);have hO1:=S2.o.below hx;have hnw:(wr.alloc (.cells #[.int .i64 y] 3)).cell? ⟨wr.heap.size,0,none⟩=some (.int .i64 y):=by rw[World.cell?_alloc_new];rfl
   have hbs:=Nat.le_trans S2.size hx.size;have HK:Hid (∀w5,(wr.alloc (.cells #[.int .i64 y] 3)).grownBy w5 (Value.slice va a vc).ownBlock->TC (w.heap.size+1) [.slice va a vc,.slice none 0 0] w5):=fun w5 hg=>
    (S2.s.below hx).block (hg.block _ (by have:=S2.size;have:=hx.size;omega) (fun e=>by have:=(S2.o.blk _ e.symm).1;omega))
   clear S2 hx hy;go_wp2_with (first|(at_builtin;refine wpList_append_int (by rfl) _ _ (by rfl) (w.heap.size+2) (.slice va a vc) (JZ A a) (by rfl) hO1 (by rw[Tu];omega) wr.heap.size y (by rfl) hnw hbs _ rfl ?_;intro g cap w5 hO5 hgrow hgb hl5;have c5:=(HK.out w5 hgrow 0 _ rfl).1;have c5f:=(HK.out w5 hgrow 0 _ rfl).2));have S3:=S1.out.putO rfl hO5 hgrow hgb;have e1:JZ A a++[y]=JZ A (a+1):=by rw[JW,Hy.out]
   rw[e1,Tu]at S3;rw[Tu];go_roundw
   case rel=>exact⟨a+1,_,by omega,by go_num,S3⟩
   case measure=>simp[intOf];omega
  ·have hge:¬(a:Int)<(A.N:Int):=by omega
   have haN:a=A.N:=by omega
   subst haN;have S1:=S;clear S;go_wp2_with fail
   go_loopw [6] (fun x w'=>∃(g:Int) (vo vf:Value) (lo lf:List Int),x=.int .i64 g/\FN w vo vf lo lf w'/\Hid (U5 A g lo lf)) (fun x _=>((A.N:Int)+1-intOf x).toNat)
   case atStart=>exact⟨-1,_,_,_,_,rfl,S1,Or.inl ⟨rfl,rfl,rfl⟩⟩
   case round=>
    clear S1 c1;obtain⟨g,vo,vf,lo,lf,rfl,S,HR⟩:=hrel;obtain⟨va,vc,hvo,ilo⟩:=S.o.il;obtain⟨fa,fc,hvf,_⟩:=S.f.il;subst hvo;subst hvf;have hb:=HR.out.lt;obtain⟨m,hm⟩:=nam lf.length;have Hm:=hyd hm;rw[<-hm]at S hb;clear hm;by_cases hgo:g<(m:Int)
    ·obtain⟨of,h1,h2,h3⟩:=HR.out.step HGd.out;have ilo2:IL va of A.N wr:=by rw[h2]at ilo;exact ilo.congr h1
     rw[h2]at S;have HFi:=hyd (HF.out va vc of wr S.b ilo2);have HR2:Hid (U5 A m (V4 (Tg A of) A.N) (YP (Tg A of) A.N)):=by rw[Hm.out];exact h3
     have c0:=(S.s 0 _ rfl).1;have c1:=(S.s 1 _ rfl).1;have HSS:=hyd S;clear S ilo ilo2 h1 h2 h3 HR;go_wp2_with fail;refine HFi.out.mono ?_;rintro e w2 ⟨vo',vf',rfl,ho,hf,hne,hW2⟩;have S2:=HSS.out.below hW2;have hwr:=HSS.out.size;have S3:=S2.putB (ho.mono hwr) (hf.mono hwr) hne;have hth:=S2.s.there;have HO1:Hid (vo'.oneCell'=true/\vf'.oneCell'=true):=by
      obtain⟨a1,c1,h1,_⟩:=ho.il;obtain⟨a2,c2,h2,_⟩:=hf.il;rw[h1,h2];exact⟨rfl,rfl⟩
     clear S2 ho hf hne HFi c0 c1;go_wp2_with (first|(refine wpList_store_mid rfl 78 _ _ rfl (w.heap.size+1) 0 #[vo',vf'] rfl rfl hth XA (by simp[HO1.out.1,HO1.out.2]) ?_;rw[List.toList_toArray]));simp only[Act.put];go_roundw
     case rel=>exact⟨m,_,_,_,_,rfl,S3,HR2⟩
     case measure=>simp[intOf];omega
    ·have hd:=HR.out.done HGd.out hN (by rw[<-Hm.out];omega);have c1:=(S.s 1 _ rfl).1;obtain⟨e1,e2⟩:=hd;subst e1;subst e2;obtain⟨vo,hvo⟩:=nam (Value.slice va (V4 (alB A) A.N).length vc);have c0:=(S.s 0 _ rfl).1;rw[<-hvo]at S c0;have hrg:=S.s.range;have hth:=S.z.there;have hG:=Y6 w.heap.size [vo,.slice fa m fc] 0 wr;have hr':=World.rangeAt_setCells_same wr w.heap.size 0 [vo,.slice fa m fc] hth;have hfin:=run_loadVar_mid (P:=Tryz.prog) (wr.setCells w.heap.size 0 [vo,.slice fa m fc]) w.heap.size 0 78 [vo,.slice fa m fc] _ hr' u_j rfl XA;obtain⟨W9,hW9⟩:=nam (wr.setCells w.heap.size 0 [vo,.slice fa m fc]);rw[<-hW9]at hG hfin;have HW9:=hyd hW9;have Hfin:=hyd hfin;have HO1:Hid (vo.oneCell'=true):=by rw[hvo];exact rfl
     have HO2:Hid ((Value.slice fa m fc).oneCell'=true):=rfl;have HSS:Hid (FN w vo (.slice fa m fc) (V4 (alB A) A.N) (YP (alB A) A.N) wr):=S;clear hW9 hr' hfin hvo S ilo HR;go_wp2_with (first|(refine wpList_load_mid rfl 78 _ rfl (w.heap.size+1) 0 rfl [vo,.slice fa m fc] _ hrg u_j rfl XA ?_)|(refine wpList_store_mid rfl 78 _ _ rfl w.heap.size 0 #[vo,.slice fa m fc] rfl rfl hth XA (by simp[HO1.out,HO2.out]) ?_;rw[List.toList_toArray,<-HW9.out]));refine bodyPost_ret (v:=.agg #[vo,.slice fa m fc]) (res_load1 Tryz.results18 rfl Hfin.out) rfl ?_;have S:=HSS.out;refine⟨vo,.slice fa m fc,rfl,(S.o.grown hG (fun k hk e=>?_)).mono (by omega),(S.f.grown hG (fun k hk e=>?_)).mono (by omega),S.ne,S.b.grown hG S.b.size (fun q hq=>by cases hq;exact Nat.le_refl _)⟩
     ·have:=(S.o.blk k hk).1;have:=Option.some.inj e;omega
     ·have:=(S.f.blk k hk).1;have:=Option.some.inj e;omega
end
section
open Go.RowKit
theorem YM:(Tryz.prog.info? 45).map (·.size)=some 7:=by kernel_rfl
def Yv:Array Value:=#[.int .i64 0,.slice none 0 0,.slice none 0 0,.slice none 0 0,.slice none 0 0,.slice none 0 0,.slice none 0 0]
theorem WA (w:World):(zeroValue 45).run Tryz.prog w=.ok (.agg #[.int .i64 0,.slice none 0 0,.slice none 0 0,.slice none 0 0,.slice none 0 0,.slice none 0 0,.slice none 0 0]) w:=by
 have h:(Tryz.prog.info? 45).bind (·.zero)=some (.agg #[.int .i64 0,.slice none 0 0,.slice none 0 0,.slice none 0 0,.slice none 0 0,.slice none 0 0,.slice none 0 0]):=by kernel_rfl
 cases hq:Tryz.prog.info? 45 with
 |none=>rw[hq]at h;cases h
 |some i=>rw[hq]at h;simp at h;simp[zeroValue,typeInfo,hq,h]
variable {tmps:Array Value}{fn:Func}{g n:Nat}{f:Nat->Int}{v:Value}{w w':World}
theorem Xo.block (h:Xo g f n w) (hb:w'.heap[g]?=w.heap[g]?):Xo g f n w':=fun k hk=>by
 rw[World.cell?_of_block (w:=w) (a:=⟨g,k,none⟩) hb,World.frozen?_of_block (w:=w) (a:=⟨g,k,none⟩) hb];exact h k hk
variable {p:Tmp}
theorem QF {ty:TypeId} (h:fn.results=#[.cell p ty]) (tmps:Array Value) (P:Program) (w:World):
  (results fn tmps).run P w=((asAddr (tmps.getD p undef)).run P w).andThen fun a w₁=>(loadVar ty a).run P w₁:=by
 simp only[results,h];simp[Sem.run_bind,Result.andThen]
variable {P:Program}
theorem Xb {ty:TypeId}{ad:Addr} (h:fn.results=#[.cell p ty]) (ht:tmps.getD p undef=.pointer (some ad)) (hl:(loadVar ty ad).run P w=.ok v w):
  (results fn tmps).run P w=.ok v w:=by
 rw[QF h,ht];simp[asAddr,hl]
end
end Go.Proofs.YtoaaklhpmhjhkabGreat
