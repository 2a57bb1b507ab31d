import Derived.Test.YtoaaklhpmhjhkaaGreatC44
set_option maxRecDepth 100000
set_option maxHeartbeats 4000000
set_option linter.all false
namespace Go.Proofs.YtoaaklhpmhjhkaaGreat
open Go.RowKit
open Bm
theorem y3i (rw:Nat->Nat->Int) (S a b:Nat):Cl rw (S+1) a b=(Cl rw S a b&&(rw S a==rw S b)):=by simp[Cl,List.range_succ]
theorem y3h (rw:Nat->Nat->Int) (S a b:Nat):Cl rw S a b=Cl rw S b a:=by
 rw[Bool.eq_iff_iff,q2C,q2C];exact⟨fun h s hs=>(h s hs).symm,fun h s hs=>(h s hs).symm⟩
structure CK (w:World) (rules:Nat) (E:Nat->Nat->Bool) (b:Nat) (vf:Value) (lf:List Int) (w':World):Prop where
 t:TC w.heap.size macZ w'
 c:TC (w.heap.size+1) (inl (fun j=>if j<b then idxI E j else 0) 256) w'
 m:TC (w.heap.size+2) [.int .i64 rules,.slice (some ⟨w.heap.size+1,0,none⟩) 256 256,.slice none 0 0,.slice none 0 0] w'
 f:OwnL (w.heap.size+3) vf lf w'
 b:Below w.heap.size w w'
 z:w.heap.size+3<=w'.heap.size
variable {lf lf' ll ll' ln ln' : List Int}{b cap g mb n rules : Nat}{E : Nat → Nat → Bool}{ob : Obj}{v0 vc vf vl vn : Value}{W0 w w' w'' w5 : World}
theorem CK.below (h:CK w rules E b vf lf w') (hW:Below w'.heap.size w' w''):CK w rules E b vf lf w'':=by
 have hz:=h.z;have:=hW.size;exact⟨h.t.block (hW.block _ (by omega)),h.c.block (hW.block _ (by omega)),h.m.block (hW.block _ (by omega)),h.f.below hW,h.b.trans (hW.mono h.b.size),by omega⟩
theorem CK.app (h:CK w rules E b vf lf w') (h5:OwnL (w.heap.size+3) (.slice (some ⟨g,0,none⟩) n cap) lf' w5) (hg:(w'.alloc ob).grownBy w5 vf.ownBlock):CK w rules E b (.slice (some ⟨g,0,none⟩) n cap) lf' w5:=by
 have x:=box_bel w' ob;have a:=h.below x;have hz:=a.z;have hs:=hg.size;have hfb:=h.f.blk;exact⟨a.t.block (hg.block _ (by omega) (fun e=>by have:=(hfb _ e.symm).1;omega)),a.c.block (hg.block _ (by omega) (fun e=>by have:=(hfb _ e.symm).1;omega)),a.m.block (hg.block _ (by omega) (fun e=>by have:=(hfb _ e.symm).1;omega)),h5,a.b.grown hg a.b.size (fun q hq=>by have:=(hfb q hq).1;omega),by omega⟩
theorem CK.set (h:CK w rules E b vf lf w') (hb:b<256):CK w rules E (b+1) vf lf (w'.setCell ⟨w.heap.size+1,b,none⟩ (.int .i64 (idxI E b))):=by
 have hz:=h.z;have hfb:=h.f.blk;have hbk:∀q,q≠w.heap.size+1->(w'.setCell ⟨w.heap.size+1,b,none⟩ (.int .i64 (idxI E b))).heap[q]?=w'.heap[q]?:=fun q hq=>Below.heap_setCell w' ⟨w.heap.size+1,b,none⟩ _ q (fun e=>hq e)
 refine⟨h.t.block (hbk _ (by omega)),?_,h.m.block (hbk _ (by omega)),h.f.keep (fun k hk=>hbk k (by have:=(hfb k hk).1;omega)),h.b.setCell (p:=⟨w.heap.size+1,b,none⟩) (by show _<=w.heap.size+1;omega) _,by rw[World.size_setCell];exact hz⟩;have h1:=h.c.set b (by rw[q1d];exact hb) (.int .i64 (idxI E b));rw[q1B]at h1;rw[q0C (g:=fun c=>if c=b then idxI E b else if c<b then idxI E c else 0) (fun c _=>?_)]
 ·exact h1
 ·by_cases e:c=b
  ·subst e;simp
  ·by_cases e2:c<b
   ·simp[e,e2,show c<b+1 by omega]
   ·simp[e,e2,show ¬c<b+1 by omega]
structure MR (mb:Nat) (W0:World) (v0 vc vl vn:Value) (ll ln:List Int) (w':World):Prop where
 c:TC mb [v0,vc,vl,vn] w'
 ol:OwnL W0.heap.size vl ll w'
 on:OwnL W0.heap.size vn ln w'
 n3:∀k,vl.ownBlock=some k->vn.ownBlock≠some k
 b:Below mb W0 w'
 k:∀k,k<W0.heap.size->k≠mb->w'.heap[k]?=W0.heap[k]?
theorem MR.below (h:MR mb W0 v0 vc vl vn ll ln w') (hW:Below w'.heap.size w' w'') (hm:mb<W0.heap.size):MR mb W0 v0 vc vl vn ll ln w'':=
 ⟨h.c.below hW,h.ol.below hW,h.on.below hW,h.n3,h.b.trans (hW.mono (by have:=h.b.size;omega)),fun k h1 h2=>by rw[hW.block k (by have:=h.b.size;omega)];exact h.k k h1 h2⟩
theorem MR.putL (h:MR mb W0 v0 vc vl vn ll ln w') (hm:mb<W0.heap.size) (h5:OwnL W0.heap.size (.slice (some ⟨g,0,none⟩) n cap) ll' w5) (hg:(w'.alloc ob).grownBy w5 vl.ownBlock) (hgb:vl.ownBlock=some g\/g=(w'.alloc ob).heap.size):
  w5.cell? ⟨mb,2,none⟩=some vl/\w5.frozen? ⟨mb,2,none⟩=false/\MR mb W0 v0 vc (.slice (some ⟨g,0,none⟩) n cap) vn ll' ln (w5.setCell ⟨mb,2,none⟩ (.slice (some ⟨g,0,none⟩) n cap)):=by
 have x:=box_bel w' ob;have hz:(w'.alloc ob).heap.size=w'.heap.size+1:=by simp
 have a:=h.below x hm;have hvb:=h.ol.blk;have hnb:=h.on.blk;have hs:=h.b.size;have hcell:=a.c.block (hg.block _ a.c.lt (fun e=>by have:=(hvb _ e.symm).1;omega));obtain⟨c1,c2⟩:=hcell 2 _ rfl;have hb6:∀q,q≠mb->(w5.setCell ⟨mb,2,none⟩ (.slice (some ⟨g,0,none⟩) n cap)).heap[q]?=w5.heap[q]?:=fun q hq=>Below.heap_setCell w5 ⟨mb,2,none⟩ _ q (fun e=>hq e)
 have hg5:=(h5.blk g rfl).1;refine⟨c1,c2,hcell.set 2 (by simp) _,h5.keep (fun q hq=>hb6 q (by cases hq;show g≠mb;omega)),(a.on.grown hg (fun q hq e=>h.n3 q e hq)).keep (fun q hq=>hb6 q (fun e=>by have:=(hnb q hq).1;omega)),fun q hq e=>?_,?_,fun q h1 h2=>?_⟩
 ·have e2:=Option.some.inj hq;subst e2;rcases hgb with h1|h1
  ·exact h.n3 g h1 e
  ·have:=(hnb g e).2;omega
 ·exact(a.b.grown hg (by have:=a.b.size;omega) (fun q hq=>by have:=(hvb q hq).1;omega)).setCell (p:=⟨mb,2,none⟩) (Nat.le_refl _) _
 ·rw[hb6 q h2,hg.block q (by omega) (fun e=>by have:=(hvb q e.symm).1;omega)];exact a.k q h1 h2
theorem MR.putN (h:MR mb W0 v0 vc vl vn ll ln w') (hm:mb<W0.heap.size) (h5:OwnL W0.heap.size (.slice (some ⟨g,0,none⟩) n cap) ln' w5) (hg:(w'.alloc ob).grownBy w5 vn.ownBlock) (hgb:vn.ownBlock=some g\/g=(w'.alloc ob).heap.size):
  w5.cell? ⟨mb,3,none⟩=some vn/\w5.frozen? ⟨mb,3,none⟩=false/\MR mb W0 v0 vc vl (.slice (some ⟨g,0,none⟩) n cap) ll ln' (w5.setCell ⟨mb,3,none⟩ (.slice (some ⟨g,0,none⟩) n cap)):=by
 have x:=box_bel w' ob;have hz:(w'.alloc ob).heap.size=w'.heap.size+1:=by simp
 have a:=h.below x hm;have hvb:=h.on.blk;have hnb:=h.ol.blk;have hs:=h.b.size;have hcell:=a.c.block (hg.block _ a.c.lt (fun e=>by have:=(hvb _ e.symm).1;omega));obtain⟨c1,c2⟩:=hcell 3 _ rfl;have hb6:∀q,q≠mb->(w5.setCell ⟨mb,3,none⟩ (.slice (some ⟨g,0,none⟩) n cap)).heap[q]?=w5.heap[q]?:=fun q hq=>Below.heap_setCell w5 ⟨mb,3,none⟩ _ q (fun e=>hq e)
 have hg5:=(h5.blk g rfl).1;refine⟨c1,c2,hcell.set 3 (by simp) _,(a.ol.grown hg (fun q hq e=>h.n3 q hq e)).keep (fun q hq=>hb6 q (fun e=>by have:=(hnb q hq).1;omega)),h5.keep (fun q hq=>hb6 q (by cases hq;show g≠mb;omega)),fun q hq e=>?_,?_,fun q h1 h2=>?_⟩
 ·have e2:=Option.some.inj e;subst e2;rcases hgb with h1|h1
  ·exact h.n3 g hq h1
  ·have:=(hnb g hq).2;omega
 ·exact(a.b.grown hg (by have:=a.b.size;omega) (fun q hq=>by have:=(hvb q hq).1;omega)).setCell (p:=⟨mb,3,none⟩) (Nat.le_refl _) _
 ·rw[hb6 q h2,hg.block q (by omega) (fun e=>by have:=(hvb q e.symm).1;omega)];exact a.k q h1 h2
theorem MR.cell (h:MR mb W0 v0 vc vl vn ll ln w') {a o:Nat}{v:Value} (hc:W0.cell? ⟨a,o,none⟩=some v) (ha:a≠mb):w'.cell? ⟨a,o,none⟩=some v:=by
 rw[World.cell?_of_block (w:=W0) (a:=⟨a,o,none⟩) (h.k a (World.block_lt_of_cell? W0 _ hc) ha)];exact hc
def labO (vd:Nat->Int) (O:List Nat) (i:Nat):List Int:=(List.range i).map fun s=>vd (O.getD s 0)
theorem y0y (vd:Nat->Int) (O:List Nat) (i:Nat):labO vd O (i+1)=labO vd O i++[vd (O.getD i 0)]:=by simp[labO,List.range_succ]
theorem q4e (vd:Nat->Int) (O:List Nat) (i:Nat):(labO vd O i).length=i:=by simp[labO]
theorem y2N (vd:Nat->Int) (O:List Nat) {i n:Nat} (h:i<n):(labO vd O n).getD i 0=vd (O.getD i 0):=by simp[labO,List.getD_eq_getElem?_getD,h]
theorem q8c (pb N:Nat) (vd:Nat->Int) (nx:Nat->Nat->Int) (bs:List Nat) (oa:Option Addr) (oc:Nat) (O:List Nat) (ra:Option Addr) (rc:Nat) (rows:Nat->Nat->Int) (rules:Nat) (w:World) (hP:PLN pb N vd nx bs w) (hO:IL oa (fun i=>((O.getD i 0:Nat):Int)) O.length w) (hR:RwB ra O.length rows w) (h96:O.length<=96) (hN:N<=200) (hON:∀x∈O,x<N) (hru:rules<=8):
  Calls Tryz.prog 31 #[.pointer (some ⟨pb,0,none⟩),.int .i64 rules,.slice oa O.length oc,.slice ra O.length rc] w (MaR rules O rows vd w):=by
 have hz:=q1i;have HE:=hyd (q9b rows O.length 256);obtain⟨ol,hol⟩:=nam O.length;have Hol:=hyd hol;have HP:Hid (∀w',Below w.heap.size w w'->PLN pb N vd nx bs w'/\IL oa (fun i=>((O.getD i 0:Nat):Int)) ol w'/\RwB ra ol rows w'):=fun w' h=>by
  rw[hol];refine⟨hP.below h,hO.below h,fun i hi=>?_⟩;obtain⟨b,o,xa,xc,e,c,il⟩:=hR i hi;exact⟨b,o,xa,xc,e,by rw[h.cell (p:=⟨b,o+i,none⟩) (World.block_lt_of_cell? w _ c)];exact c,il.below h⟩
 have HON:=hyd hON;obtain⟨E,hE⟩:=nam (Cl rows ol);have HEq:=hyd hE;rw[<-hol]at HE h96;rw[<-hE]at HE;rw[<-hol];have hmk:(Instr.makeSlice 23 (.int .i64 256) (.int .i64 256)).run Tryz.prog (w.alloc (.cells #[.int .i64 0,.slice none 0 0,.slice none 0 0,.slice none 0 0] 25))=.ok (.slice (some ⟨w.heap.size+1,0,none⟩) 256 256) ((w.alloc (.cells #[.int .i64 0,.slice none 0 0,.slice none 0 0,.slice none 0 0] 25)).alloc (.cells (zeroI 256).toArray 3)):=by
  have:=q1M (w.alloc (.cells #[.int .i64 0,.slice none 0 0,.slice none 0 0,.slice none 0 0] 25)) 256 (by omega);rw[World.size_alloc]at this;exact this
 obtain⟨Wa,hWa⟩:=nam (w.alloc (.cells #[.int .i64 0,.slice none 0 0,.slice none 0 0,.slice none 0 0] 25));obtain⟨Wb,hWb⟩:=nam (Wa.alloc (.cells (zeroI 256).toArray 3));obtain⟨Wc,hWc⟩:=nam (Wb.alloc (.cells #[.int .i64 (rules:Int),.slice (some ⟨w.heap.size+1,0,none⟩) 256 256,.slice none 0 0,.slice none 0 0] 25));have za:Wa.heap.size=w.heap.size+1:=by rw[hWa];simp
 have zb:Wb.heap.size=w.heap.size+2:=by rw[hWb];simp[za]
 have zc:Wc.heap.size=w.heap.size+3:=by rw[hWc];simp[zb]
 have xa:Below w.heap.size w Wa:=by rw[hWa];exact box_bel _ _
 have xb:Below Wa.heap.size Wa Wb:=by rw[hWb];exact box_bel _ _
 have xc:Below Wb.heap.size Wb Wc:=by rw[hWc];exact box_bel _ _
 have Ta:TC w.heap.size macZ Wa:=by rw[hWa];exact TC.boxed w macZ _
 have Tb:TC (w.heap.size+1) (zeroI 256) Wb:=by rw[hWb,<-za];exact TC.boxed Wa (zeroI 256) _
 have Tc:TC (w.heap.size+2) [.int .i64 (rules:Int),.slice (some ⟨w.heap.size+1,0,none⟩) 256 256,.slice none 0 0,.slice none 0 0] Wc:=by rw[hWc,<-zb];exact TC.boxed Wb [.int .i64 (rules:Int),.slice (some ⟨w.heap.size+1,0,none⟩) 256 256,.slice none 0 0,.slice none 0 0] _
 have C0:CK w rules E 0 (.slice none 0 0) (firstL E 0) Wc:=by
  refine⟨(Ta.block (xb.block _ (by omega))).block (xc.block _ (by omega)),?_,Tc,OwnL.nil _ _,(xa.trans (xb.mono (by omega))).trans (xc.mono (by omega)),by omega⟩;rw[q0C (g:=fun _=>0) (fun c _=>by rw[if_neg (by omega)])];exact Tb.block (xc.block _ (by omega))
 have HC0:=hyd C0;have HWc:Hid (Wc=((w.alloc (.cells #[.int .i64 0,.slice none 0 0,.slice none 0 0,.slice none 0 0] 25)).alloc (.cells (zeroI 256).toArray 3)).alloc (.cells #[.int .i64 (rules:Int),.slice (some ⟨w.heap.size+1,0,none⟩) 256 256,.slice none 0 0,.slice none 0 0] 25)):=by show _=_;rw[hWc,hWb,hWa]
 clear hP hO hR hON hol hE hWa hWb hWc za zb zc xa xb xc Ta Tb Tc C0;go_enter Tryz.func31,Tryz.ntmps31;go_wp2_with fail;clear hmk;rw[<-HWc.out];clear HWc;obtain⟨cb,hcb⟩:=nam (w.heap.size+1);have Hcb:=hyd hcb;obtain⟨mb,hmb⟩:=nam (w.heap.size+2);have Hmb:=hyd hmb;rw[<-hmb];clear hcb hmb
 go_loopw [10,11] (fun vf x w'=>∃b:Nat,b<=256/\x=.int .i64 b/\CK w rules E b vf (firstL E b) w') (fun _ x _=>256-(intOf x).toNat)
 case atStart=>exact⟨0,by omega,rfl,HC0.out⟩
 case round=>
  clear HC0;obtain⟨b,hb,rfl,C1⟩:=hrel;by_cases hbl:b<256
  ·have hbl':(b:Int)<256:=by omega
   obtain⟨fa,fc,hvf,_⟩:=C1.f.il;subst hvf;rw[q0u]at C1;rw[q0u];have hnew:=rep_new HE.out hbl;obtain⟨id,hid⟩:=nam (idx E b);rw[<-hid]at hnew;have Hid1:=hyd hid;clear hid;have hcl:=cnt_le E b;obtain⟨cn,hcn⟩:=nam (cnt E b);have Hcn:=hyd hcn;rw[<-hcn]at hnew hcl C1 ⊢;clear hcn;have HNew:=hyd hnew.1;have hidc:=hnew.2;have hcn256:(cn:Int)<256:=by omega
   clear hnew;have HC1:=hyd C1;clear C1;go_wp2_with fail
   go_loopw [12,13] (fun c k w'=>∃(kk cv:Nat) (ki:Int),kk<=cn/\ki=(kk:Int)-1/\k=.int .i64 ki/\c=.int .i64 cv/\(kk<=id->cv=id)/\(¬kk<=id->cv=cn)/\CK w rules E b (.slice fa cn fc) (firstL E b) w') (fun _ k _=>(intOf k+1).toNat)
   case atStart=>exact⟨cn,cn,(cn:Int)-1,by omega,rfl,rfl,rfl,fun h=>by omega,fun _=>rfl,HC1.out⟩
   case round=>
    clear HC1;obtain⟨kk,cv,ki,hkk,hki,rfl,rfl,hcv1,hcv2,C1⟩:=hrel;by_cases hk0:0<kk
    ·obtain⟨j,rfl⟩:∃j,kk=j+1:=⟨kk-1,by omega⟩;have hki2:ki=(j:Int):=by omega
     subst hki2;have hjc:(j:Int)<cn:=by omega
     have hge:(0:Int)<=j:=by omega
     obtain⟨r,hr⟩:∃r,(reps E b)[j]?=some r:=⟨(reps E b)[j]'(by have:=Hcn.out;unfold cnt at this;omega),List.getElem?_eq_getElem _⟩;have hrm:=reps_mem hr;have hr256:r<256:=by omega
     have hr256':(r:Int)<256:=by omega
     have hlk:=rep_like HE.out hbl hr;rw[<-Hid1.out]at hlk;have Hlk:=hyd hlk;have hgd:(firstL E b).getD j 0=(r:Int):=by simp[firstL,List.getD_eq_getElem?_getD,hr]
     have Hfr:Hid (∀w',CK w rules E b (.slice fa cn fc) (firstL E b) w'->∃g o,fa=some ⟨g,o,none⟩/\w'.cell? ⟨g,o+j,none⟩=some (.int .i64 (r:Int))):=fun w' h=>by
      obtain⟨ad2,cap2,hv2,il2⟩:=h.f.il;have hv3:=(Value.slice.inj hv2).1;rw[<-hv3]at il2;obtain⟨g,o,e,c2⟩:=il2 j (by rw[q0u,<-Hcn.out];omega);simp only[hgd]at c2;exact⟨g,o,e,c2⟩
     have Hcv:=hyd2 hcv1 hcv2;have HC1:=hyd C1;clear hlk hr hrm hgd hcv1 hcv2 hki C1;go_wp2_with fail
     go_loopw [14,15] (fun s x w'=>∃(i:Nat) (sv:Bool),i<=ol/\x=.int .i64 i/\s=.bool sv/\sv=Cl rows i b r/\CK w rules E b (.slice fa cn fc) (firstL E b) w') (fun _ x _=>ol-(intOf x).toNat)
     case atStart=>exact⟨0,true,by omega,rfl,rfl,rfl,HC1.out⟩
     case round=>
      clear HC1;obtain⟨i,sv,hi,rfl,rfl,hsv,C1⟩:=hrel;by_cases hil:i<ol
      ·have hil':(i:Int)<ol:=by omega
       obtain⟨_,_,hRw⟩:=HP.out wr C1.b;obtain⟨rb,ro,xa,xc,era,crw,ilx⟩:=hRw i hil;subst era;obtain⟨xb,xo,exa,cx1⟩:=ilx b hbl;subst exa;obtain⟨xb',xo',exa',cx2⟩:=ilx r hr256;cases exa';obtain⟨fg,fo,efa,cf⟩:=Hfr.out wr C1;subst efa;obtain⟨v1,hv1⟩:=nam (rows i b);obtain⟨v2,hv2⟩:=nam (rows i r);have Hcs:Hid (Cl rows (i+1) b r=(sv&&(v1==v2))):=by show _=_;rw[y3i,<-hsv,hv1,hv2]
       rw[<-hv1]at cx1;rw[<-hv2]at cx2;have HC1:=hyd C1;clear C1 hRw ilx hv1 hv2 hsv;cases sv
       ·go_wp2_with fail
        go_quiet (fail)
        go_wp2_with fail;go_roundw
        case rel=>exact⟨i+1,false,by omega,by go_num,rfl,by rw[Hcs.out];rfl,HC1.out.below (q1w _ _ _)⟩
        case measure=>simp[intOf];omega
       ·go_wp2_with fail
        go_quiet (fail)
        go_wp2_with fail;go_roundw
        case rel=>exact⟨i+1,v1==v2,by omega,by go_num,rfl,by rw[Hcs.out,Bool.true_and],HC1.out.below (q1w _ _ _)⟩
        case measure=>simp[intOf];omega
      ·have hge2:¬(i:Int)<ol:=by omega
       have hio:i=ol:=by omega
       have hs2:sv=E r b:=by rw[hsv,hio,y3h,HEq.out]
       have HC1:=hyd C1;clear C1 hsv hio;cases sv
       ·have hne:j≠id:=fun e=>by have:=Hlk.out.2 e;rw[<-hs2]at this;cases this
        clear hs2;go_wp2_with fail;go_roundw
        case rel=>exact⟨j,cv,(j:Int)-1,by omega,rfl,by go_num,rfl,fun h=>Hcv.out.1 (by omega),fun h=>Hcv.out.2 (by omega),HC1.out⟩
        case measure=>simp[intOf]
       ·have Hji:=hyd (Hlk.out.1 hs2.symm);clear hs2;go_wp2_with fail;go_roundw
        case rel=>exact⟨j,j,(j:Int)-1,by omega,rfl,by go_num,rfl,fun _=>Hji.out,fun h=>by have:=Hji.out;omega,HC1.out⟩
        case measure=>simp[intOf]
    ·have hkz:kk=0:=by omega
     subst hkz;have hge:¬(0:Int)<=ki:=by omega
     have hcvi:cv=id:=hcv1 (by omega);subst hcvi;clear hki;have Hset:Hid (∀(v:Value) (l:List Int) (w':World),CK w rules E b v l w'->w'.cell? ⟨mb,1,none⟩=some (.slice (some ⟨cb,0,none⟩) 256 256)/\w'.cell? ⟨cb,b,none⟩=some (.int .i64 0)/\w'.frozen? ⟨cb,b,none⟩=false/\CK w rules E (b+1) v l (w'.setCell ⟨cb,b,none⟩ (.int .i64 (cv:Int)))):=fun v l w' h=>by
      have h1:=(h.m 1 _ rfl).1;obtain⟨h2,h3⟩:=h.c b _ (q1l _ hbl);rw[if_neg (by omega)]at h2;have h4:=h.set hbl;unfold idxI at h4;rw[<-Hid1.out]at h4;rw[Hmb.out,Hcb.out];exact⟨h1,h2,h3,h4⟩
     by_cases hcc:cv=cn
     ·have q1:((cv:Int)==(cn:Int))=true:=by simp[hcc]
      have hx:=box_bel wr (.cells #[.int .i64 (b:Int)] 3);have hO1:=C1.f.below hx;have hnw:(wr.alloc (.cells #[.int .i64 (b:Int)] 3)).cell? ⟨wr.heap.size,0,none⟩=some (.int .i64 (b:Int)):=by rw[World.cell?_alloc_new];rfl
      have hbs:=Nat.le_trans C1.z hx.size;have HC1:=hyd C1;have hfl:=q0u E b;rw[<-Hcn.out]at hfl;have Hfl:=hyd hfl;have e2:firstL E b++[(b:Int)]=firstL E (b+1):=by rw[q1t,if_pos (HNew.out.1 hcc)]
      have He2:=hyd e2;clear C1 hx hfl e2 hcc hcv1 hcv2;go_wp2_with (first|(at_builtin;refine Bm.wpList_append_int (by rfl) _ _ (by rfl) (w.heap.size+3) (.slice fa cn fc) (firstL E b) (by rfl) hO1 (by rw[Hfl.out];omega) wr.heap.size (b:Int) (by rfl) hnw hbs _ rfl ?_;rw[Hfl.out];intro g cap w5 hO5 hgrow hgb hl5;refine Stop.out ?_));refine⟨?_⟩;rw[He2.out]at hO5;have C5:=HC1.out.app hO5 hgrow;obtain⟨y1,y2,y3,y4⟩:=Hset.out _ _ w5 C5;have HC5:=hyd y4;clear C5 y4 hO5 hgrow hgb hl5 hO1 hnw hbs HC1
      (try simp only[psm])
      go_wp2_with fail;go_roundw
      case rel=>exact⟨b+1,by omega,by go_num,HC5.out⟩
      case measure=>simp[intOf];omega
     ·have q1:((cv:Int)==(cn:Int))=false:=by simp;omega
      have hold:least E b≠b:=fun e=>hcc (HNew.out.2 e)
      have e2:firstL E (b+1)=firstL E b:=by rw[q1t,if_neg hold,List.append_nil]
      rw[<-e2]at C1;obtain⟨y1,y2,y3,y4⟩:=Hset.out _ _ wr C1;have HC5:=hyd y4;clear C1 y4 e2;go_wp2_with fail;go_roundw
      case rel=>exact⟨b+1,by omega,by go_num,HC5.out⟩
      case measure=>simp[intOf];omega
  ·have hge:¬(b:Int)<256:=by omega
   have hb2:b=256:=by omega
   subst hb2;obtain⟨W0,hW0⟩:=nam wr;rw[<-hW0]at C1 ⊢;clear hW0 wr;have hmw:mb<W0.heap.size:=by have:=C1.z;have:=Hmb.out;omega
   obtain⟨fa,fc,hvf,ilf0⟩:=C1.f.il;obtain⟨fs,hfs⟩:=nam (reps E 256);have Hfs:=hyd hfs;obtain⟨cn,hcn⟩:=nam (cnt E 256);have Hcn:=hyd hcn;have hcn256:cn<=256:=by rw[hcn];exact cnt_le E 256
   rw[q0u,<-hcn]at hvf ilf0;have hfb:=C1.f.blk;subst hvf;have M0:MR mb W0 (.int .i64 rules) (.slice (some ⟨cb,0,none⟩) 256 256) (.slice none 0 0) (.slice none 0 0) (labO vd O 0) (nxtL rows fs 0) W0:=by
    have h1:=C1.m;rw[<-Hmb.out,<-Hcb.out]at h1;exact⟨h1,OwnL.nil _ _,OwnL.nil _ _,fun k hk=>(by cases hk),Below.refl _ _,fun _ _ _=>rfl⟩
   have HM0:=hyd M0;have HOld:Hid (∀(vl vn:Value) (ll ln:List Int) (w':World),MR mb W0 (.int .i64 rules) (.slice (some ⟨cb,0,none⟩) 256 256) vl vn ll ln w'->Below w.heap.size w w'/\TC w.heap.size macZ w'/\TC cb (inl (idxI E) 256) w'/\IL fa (fun i=>(firstL E 256).getD i 0) cn w'):=fun vl vn ll ln w' h=>by
    have e1:=Hmb.out;have e2:=Hcb.out;refine⟨C1.b.trans (h.b.mono (by omega)),C1.t.block (h.k _ (by omega) (by omega)),?_,ilf0.heap (fun k h1 ⟨o,e⟩=>h.k k h1 ?_)⟩
    ·have h1:=C1.c;rw[<-e2,q0C (g:=idxI E) (fun c hc=>by rw[if_pos hc])]at h1;exact h1.block (h.k _ (by omega) (by omega))
    ·have:=(hfb k (by rw[e];rfl)).1;omega
   have HIf:Hid (IL fa (fun i=>(firstL E 256).getD i 0) cn W0/\(∀k o,fa=some ⟨k,o,none⟩->k≠mb)):=⟨ilf0,fun k o e=>by have:=(hfb k (by rw[e];rfl)).1;have:=Hmb.out;omega⟩;have HB0:=hyd2 C1.b C1.z;clear C1 ilf0 hfb M0 hfs hcn;go_wp2_with fail
   go_loopw [16] (fun x w'=>∃(i:Nat) (vl vn:Value),i<=ol/\x=.int .i64 i/\MR mb W0 (.int .i64 rules) (.slice (some ⟨cb,0,none⟩) 256 256) vl vn (labO vd O i) (nxtL rows fs i) w') (fun x _=>ol-(intOf x).toNat)
   case atStart=>exact⟨0,_,_,by omega,rfl,HM0.out⟩
   case round=>
    clear HM0;obtain⟨i,vl,vn,hi,rfl,Z⟩:=hrel;obtain⟨Bw,T0,T1,ilf⟩:=HOld.out _ _ _ _ wr Z;by_cases hlt:i<ol
    ·have hlt':(i:Int)<ol:=by omega
     obtain⟨hP0,hO0,hR0⟩:=HP.out W0 HB0.out.1;obtain⟨σ,hσ⟩:∃σ,O[i]?=some σ:=⟨O[i]'(by have:=Hol.out;omega),List.getElem?_eq_getElem _⟩;have hσN:=HON.out σ (List.mem_of_getElem? hσ);have hσN':(σ:Int)<N:=by omega
     have hσd:O.getD i 0=σ:=by rw[List.getD_eq_getElem?_getD,hσ];rfl
     obtain⟨va,vcp,cv0,ilv⟩:=hP0.v;obtain⟨vb,vo,eva,cv1⟩:=ilv σ hσN;subst eva;obtain⟨ob,oo,eoa,co1⟩:=hO0 i hlt;subst eoa;simp only[hσd]at co1;obtain⟨y,hy⟩:=nam (vd σ);rw[<-hy]at cv1;have Hlab:Hid (labO vd O (i+1)=labO vd O i++[y]):=by show _=_;rw[y0y,hσd,hy]
     have hlw:pb≠mb/\ob≠mb/\vb≠mb/\pb<W0.heap.size/\ob<W0.heap.size/\vb<W0.heap.size:=by
      obtain⟨hP1,hO1,_⟩:=HP.out w (Below.refl _ _);obtain⟨va',vcp',cv0',ilv'⟩:=hP1.v;have g1:=World.block_lt_of_cell? _ _ cv0';have g0:(Value.slice va' N vcp')=.slice (some ⟨vb,vo,none⟩) N vcp:=by
       have:=HB0.out.1.cell (p:=⟨pb,0,none⟩) g1;rw[cv0,cv0']at this;exact(Option.some.inj this).symm
      cases g0;obtain⟨b1,o1,e1,c1⟩:=ilv' σ hσN;cases e1;obtain⟨b2,o2,e2,c2⟩:=hO1 i hlt;cases e2;have g2:=World.block_lt_of_cell? _ _ c1;have g3:=World.block_lt_of_cell? _ _ c2;have:=HB0.out.2;have:=Hmb.out;simp only at g1 g2 g3;omega
     have Hlt:=hyd3 hlw.2.2.2.1 hlw.2.2.2.2.1 hlw.2.2.2.2.2;have HSS:Hid (∀(vl':Value) (ll':List Int) (w':World),MR mb W0 (.int .i64 rules) (.slice (some ⟨cb,0,none⟩) 256 256) vl' vn ll' (nxtL rows fs i) w'->(fun w'=>w'.cell? ⟨pb,0,none⟩=some (.slice (some ⟨vb,vo,none⟩) N vcp)/\w'.cell? ⟨ob,oo+i,none⟩=some (.int .i64 (σ:Int))/\w'.cell? ⟨vb,vo+σ,none⟩=some (.int .i64 y)) w'):=fun vl' ll' w' h=>⟨h.cell cv0 hlw.1,h.cell co1 hlw.2.1,h.cell cv1 hlw.2.2.1⟩
     obtain⟨s1,s2,s3⟩:=HSS.out _ _ wr Z;obtain⟨lad,lcap,evl,_⟩:=Z.ol.il;rw[q4e]at evl;have Hvl:=hyd evl;have cm:=(Z.c 2 _ rfl).1;rw[evl]at cm;have hlen:(labO vd O i).length<=1000000:=by rw[q4e];omega
     have HZ:=hyd Z;clear Z Bw T0 T1 ilf hP0 hO0 hR0 hσ hσd cv0 ilv cv1 co1 hy hlw evl;go_wp2_with fail;have hS0:(fun w'=>w'.cell? ⟨pb,0,none⟩=some (.slice (some ⟨vb,vo,none⟩) N vcp)/\w'.cell? ⟨ob,oo+i,none⟩=some (.int .i64 (σ:Int))/\w'.cell? ⟨vb,vo+σ,none⟩=some (.int .i64 y)) wr.drew:=⟨s1,s2,s3⟩;refine wp_region_held_drew (S:=fun w'=>w'.cell? ⟨pb,0,none⟩=some (.slice (some ⟨vb,vo,none⟩) N vcp)/\w'.cell? ⟨ob,oo+i,none⟩=some (.int .i64 (σ:Int))/\w'.cell? ⟨vb,vo+σ,none⟩=some (.int .i64 y)) (by kernel_rfl) hS0 (fun hHeld=>?_);refine wpAnyH_take (i:=0) (oi:=?oH0) (v:=?vH0) ?hiH0 ?hsH0 ?hfH0 ?hrH0 ?hQH0 (Or.inl ⟨?hwH0,?hyH0⟩) ?hSH0 ?restH0
     case hiH0=>simp only[List.getElem?_toArray,List.getElem?_cons_zero];rfl
     case hsH0=>kernel_rfl
     case hfH0=>kernel_rfl
     case hrH0=>kernel_rfl
     case hQH0=>exact fun _ _ _ h=>h
     case hSH0=>assumption
     case hwH0=>rfl
     case hyH0=>intro w' hSw;obtain⟨s1,s2,s3⟩:=hSw;go_simp;first|done|with_reducible rfl
     (try simp only[psm])
     refine wpAnyH_take (i:=2) (by simp only[gel];rfl) (by kernel_rfl) (by kernel_rfl) (by kernel_rfl) (by exact fun _ _ _ h=>h) (Or.inl ⟨by rfl,by intro w' hSw;obtain⟨s1,s2,s3⟩:=hSw;go_simp;first|done|with_reducible rfl⟩) (by assumption) ?_
     (try simp only[psm])
     refine wpAnyH_take (i:=3) (by simp only[gel];rfl) (by kernel_rfl) (by kernel_rfl) (by kernel_rfl) (by exact fun _ _ _ h=>h) (Or.inl ⟨by rfl,by intro w' hSw;obtain⟨s1,s2,s3⟩:=hSw;go_simp;first|done|with_reducible rfl⟩) (by assumption) ?_
     (try simp only[psm])
     refine wpAnyH_take (i:=4) (by simp only[gel];rfl) (by kernel_rfl) (by kernel_rfl) (by kernel_rfl) (by exact fun _ _ _ h=>h) (Or.inl ⟨by rfl,by intro w' hSw;obtain⟨s1,s2,s3⟩:=hSw;go_simp;first|done|with_reducible rfl⟩) (by assumption) ?_
     (try simp only[psm])
     refine wpAnyH_take (i:=5) (by simp only[gel];rfl) (by kernel_rfl) (by kernel_rfl) (by kernel_rfl) (by exact fun _ _ _ h=>h) (Or.inl ⟨by rfl,by intro w' hSw;obtain⟨s1,s2,s3⟩:=hSw;go_simp;first|done|with_reducible rfl⟩) (by assumption) ?_
     (try simp only[psm])
     refine wpAnyH_take (i:=6) (by simp only[gel];rfl) (by kernel_rfl) (by kernel_rfl) (by kernel_rfl) (by exact fun _ _ _ h=>h) (Or.inl ⟨by rfl,by intro w' hSw;obtain⟨s1,s2,s3⟩:=hSw;go_simp;first|done|with_reducible rfl⟩) (by assumption) ?_
     (try simp only[psm])
     refine wpAnyH_take (i:=7) (by simp only[gel];rfl) (by kernel_rfl) (by kernel_rfl) (by kernel_rfl) (by exact fun _ _ _ h=>h) (Or.inl ⟨by rfl,by intro w' hSw;obtain⟨s1,s2,s3⟩:=hSw;go_simp;first|done|with_reducible rfl⟩) (by assumption) ?_
     (try simp only[psm])
     refine wpAnyH_take (i:=8) (by simp only[gel];rfl) (by kernel_rfl) (by kernel_rfl) (by kernel_rfl) (by exact fun _ _ _ h=>h) (Or.inl ⟨by rfl,by intro w' hSw;obtain⟨s1,s2,s3⟩:=hSw;go_simp;first|done|with_reducible rfl⟩) (by assumption) ?_
     (try simp only[psm])
     refine wpAnyH_take (i:=9) (by simp only[gel];rfl) (by kernel_rfl) (by kernel_rfl) (by kernel_rfl) (by exact fun _ _ _ h=>h) (Or.inl ⟨by rfl,by intro w' hSw;obtain⟨s1,s2,s3⟩:=hSw;go_simp;first|done|with_reducible rfl⟩) (by assumption) ?_
     (try simp only[psm])
     refine wpAnyH_take (i:=10) (by simp only[gel];rfl) (by kernel_rfl) (by kernel_rfl) (by kernel_rfl) (by exact fun _ _ _ h=>h) (Or.inl ⟨by rfl,by intro w' hSw;obtain⟨s1,s2,s3⟩:=hSw;go_simp;first|done|with_reducible rfl⟩) (by assumption) ?_
     (try simp only[psm])
     refine wpAnyH_take (i:=11) (by simp only[gel];rfl) (by kernel_rfl) (by kernel_rfl) (by kernel_rfl) (by exact fun _ _ _ h=>h) (Or.inl ⟨by rfl,by intro w' hSw;obtain⟨s1,s2,s3⟩:=hSw;go_simp;first|done|with_reducible rfl⟩) (by assumption) ?_
     (try simp only[psm])
     obtain⟨W3,hW3⟩:=nam (wr.drew.alloc (.cells #[.int .i64 y] 3));have q4:=cm;have Zd:=HZ.out.below (Below.refl wr.heap.size wr).drew hmw;have x3:Below wr.drew.heap.size wr.drew W3:=by rw[hW3];exact box_bel wr.drew _
     have Z3:=Zd.below x3 hmw;have q4':W3.cell? ⟨mb,2,none⟩=some (.slice lad i lcap):=by rw[<-Hvl.out];exact(Z3.c 2 _ rfl).1
     have hS3:=HSS.out _ _ W3 Z3;refine q2P (fuel:=3) 1 12 (oi:=?Hp1) (ok:=?Hpk) (vi:=.slice lad i lcap) (vk:=.slice (some ⟨wr.drew.heap.size,0,none⟩) 1 1) (L:=#[true,true,true,true,true,true,true,true,true,true,true,true,true,false,false,false]) (A:=?HA) (w':=W3)
      ?Hh1 ?Hhk ?Hg1 ?Hgk ?Hr0 ?Hr1 ?Hr2 ?Hxi ?Hyi ?Hxk ?Hyk ?Hl1 ?Hl2 ?Hf1 ?Hf2 ?HhS ?HhSp ?Hfin
     case Hh1=>simp only[gel];rfl
     case Hhk=>simp only[gel];rfl
     case Hg1=>rfl
     case Hgk=>rfl
     case Hr0=>kernel_rfl
     case Hr1=>kernel_rfl
     case Hr2=>kernel_rfl
     case Hxi=>go_simp
     case Hyi=>clear hW3;simp only[psm];go_simp
     case Hxk=>rw[hW3];exact q1a _ rfl y rfl
     case Hyk=>rw[hW3];exact q1a _ rfl y rfl
     case Hl1=>kernel_rfl
     case Hl2=>kernel_rfl
     case Hf1=>simp only[psm];rfl
     case Hf2=>simp only[psm]
     case HhS=>exact hHeld
     case HhSp=>exact hS3
     have hnw:W3.cell? ⟨wr.drew.heap.size,0,none⟩=some (.int .i64 y):=by rw[hW3,World.cell?_alloc_new];rfl
     have hO3:=Z3.ol;have hbs:=Z3.b.size;refine wpAnyH_ready (rs:=[13]) (by kernel_rfl) (by simp) ?_;refine AllReadyH.cons (o:=?oH13) ?hiH13 (fun K hK=>?_) AllReadyH.nil
     case hiH13=>simp only[gel];rfl
     rw[if_pos (by rfl)];refine q2k _ _ rfl W0.heap.size vl (labO vd O i) (by rw[Hvl.out];rfl) hO3 hlen wr.drew.heap.size y rfl hnw hbs _ rfl ?_;intro g6 cap6 w6 hO6 hgrow hgb6 hl6;rw[<-Hlab.out]at hO6;rw[hW3]at hgrow hgb6;obtain⟨p1,p2,Z6⟩:=Zd.putL hmw hO6 hgrow hgb6;have hS6:(fun w'=>w'.cell? ⟨pb,0,none⟩=some (.slice (some ⟨vb,vo,none⟩) N vcp)/\w'.cell? ⟨ob,oo+i,none⟩=some (.int .i64 (σ:Int))/\w'.cell? ⟨vb,vo+σ,none⟩=some (.int .i64 y)) w6:=by
      have hvb:=Zd.ol.blk;obtain⟨y1,y2,y3⟩:=hS3;rw[hW3]at y1 y2 y3;obtain⟨z1,z2,z3⟩:=Hlt.out;refine⟨?_,?_,?_⟩
      ·rw[hgrow.cell_far _ (World.block_lt_of_cell? _ _ y1) (fun e=>by have:=(hvb _ e.symm).1;simp only at this;omega)];exact y1
      ·rw[hgrow.cell_far _ (World.block_lt_of_cell? _ _ y2) (fun e=>by have:=(hvb _ e.symm).1;simp only at this;omega)];exact y2
      ·rw[hgrow.cell_far _ (World.block_lt_of_cell? _ _ y3) (fun e=>by have:=(hvb _ e.symm).1;simp only at this;omega)];exact y3
     refine hK.out _ _ hS6 (fun hHeld=>?_);clear hK K;obtain⟨W7,hW7⟩:=nam (w6.setCell ⟨mb,2,none⟩ (.slice (some ⟨g6,0,none⟩) ((labO vd O i).length+1) cap6));rw[<-hW7]at Z6;have HW7:=hyd hW7;have hS7:=HSS.out _ _ W7 Z6;rw[Hvl.out]at p1
     (try simp only[psm])
     clear hW7 hO6 hgrow hgb6 hl6 Z3 hO3 hbs hnw Zd x3 q4 q4' hW3 cm HZ hS3 hS0 s1 s2 s3;refine wpAnyH_take (i:=14) (by simp only[gel];rfl) (by kernel_rfl) (by kernel_rfl) (by kernel_rfl) (by exact fun _ _ _ h=>h) (Or.inl ⟨by rfl,by intro w' hSw;obtain⟨s1,s2,s3⟩:=hSw;go_simp;first|done|with_reducible rfl⟩) (by assumption) ?_
     (try simp only[psm])
     refine wpAnyH_ready (rs:=[15]) (by kernel_rfl) (by simp) ?_;refine AllReadyH.cons (o:=?oH15) ?hiH15 (fun K hK=>?_) AllReadyH.nil
     case hiH15=>simp only[gel];rfl
     go_simp;rw[<-HW7.out];refine hK.out _ _ hS7 (fun hHeld=>?_);clear hK K;refine wpAnyH_done (by kernel_rfl) ?_ _;go_wp2_with fail
     (try simp only[Act.put])
     rw[q4e]at Z6;have HZ5:Hid (MR mb W0 (.int .i64 rules) (.slice (some ⟨cb,0,none⟩) 256 256) (.slice (some ⟨g6,0,none⟩) (i+1) cap6) vn (labO vd O (i+1)) (nxtL rows fs i++nxtR rows fs i 0) W7):=by
      show MR _ _ _ _ _ _ _ _ _;rw[show nxtR rows fs i 0=[] from rfl,List.append_nil];exact Z6
     clear Z6 hS7 hHeld p1 p2 HW7 HSS Hlt Hvl Hlab;go_wp2_with fail
     go_loopw [17] (fun x w'=>∃(c:Nat) (vn:Value),c<=cn/\x=.int .i64 c/\MR mb W0 (.int .i64 rules) (.slice (some ⟨cb,0,none⟩) 256 256) (.slice (some ⟨g6,0,none⟩) (i+1) cap6) vn (labO vd O (i+1)) (nxtL rows fs i++nxtR rows fs i c) w') (fun x _=>cn-(intOf x).toNat)
     case atStart=>exact⟨0,_,by omega,rfl,HZ5.out⟩
     case round=>
      clear HZ5;obtain⟨c,vn,hc,rfl,Z⟩:=hrel;have hfl:fs.length=cn:=by rw[Hfs.out,Hcn.out];rfl
      by_cases hcl:c<cn
      ·have hcl':(c:Int)<cn:=by omega
       obtain⟨hP0,hO0,hR0⟩:=HP.out W0 HB0.out.1;obtain⟨κ,hκ⟩:∃κ,fs[c]?=some κ:=⟨fs[c]'(by omega),List.getElem?_eq_getElem _⟩;have hκK:κ<256:=by have h:=hκ;rw[Hfs.out]at h;exact(reps_mem h).1
       have hκ':(κ:Int)<256:=by omega
       obtain⟨fg,fo,efa,cf⟩:=HIf.out.1 c hcl;have hfm:=HIf.out.2 _ _ efa;subst efa;have hgd:(firstL E 256).getD c 0=(κ:Int):=by
        rw[firstL,<-Hfs.out];simp[List.getD_eq_getElem?_getD,hκ]
       simp only[hgd]at cf;obtain⟨rb,ro,xa,xc,era,crw,ilx⟩:=hR0 i hlt;subst era;obtain⟨xb,xo,exa,cx⟩:=ilx κ hκK;subst exa;obtain⟨x,hx⟩:=nam (rows i κ);rw[<-hx]at cx;have hlw:rb≠mb/\xb≠mb/\rb<W0.heap.size/\fg<W0.heap.size/\xb<W0.heap.size:=by
        obtain⟨_,_,hR1⟩:=HP.out w (Below.refl _ _);obtain⟨rb',ro',xa',xc',era',crw',ilx'⟩:=hR1 i hlt;cases era';have g1:=World.block_lt_of_cell? _ _ crw';have g0:(Value.slice xa' 256 xc')=.slice (some ⟨xb,xo,none⟩) 256 xc:=by
         have:=HB0.out.1.cell (p:=⟨rb,ro+i,none⟩) g1;rw[crw,crw']at this;exact(Option.some.inj this).symm
        cases g0;obtain⟨b1,o1,e1,c1⟩:=ilx' κ hκK;cases e1;have g2:=World.block_lt_of_cell? _ _ c1;have g3:=World.block_lt_of_cell? _ _ cf;have:=HB0.out.2;have:=Hmb.out;simp only at g1 g2 g3;omega
       have Hlt:=hyd3 hlw.2.2.1 hlw.2.2.2.1 hlw.2.2.2.2;have HSS:Hid (∀(vn':Value) (ln':List Int) (w':World),MR mb W0 (.int .i64 rules) (.slice (some ⟨cb,0,none⟩) 256 256) (.slice (some ⟨g6,0,none⟩) (i+1) cap6) vn' (labO vd O (i+1)) ln' w'->(fun w'=>w'.cell? ⟨rb,ro+i,none⟩=some (.slice (some ⟨xb,xo,none⟩) 256 xc)/\w'.cell? ⟨fg,fo+c,none⟩=some (.int .i64 (κ:Int))/\w'.cell? ⟨xb,xo+κ,none⟩=some (.int .i64 x)) w'):=fun vn' ln' w' h=>⟨h.cell crw hlw.1,h.cell cf hfm,h.cell cx hlw.2.1⟩
       obtain⟨s1,s2,s3⟩:=HSS.out _ _ wr Z;have Hnx:Hid (nxtL rows fs i++nxtR rows fs i (c+1)=(nxtL rows fs i++nxtR rows fs i c)++[x]):=by
        show _=_;rw[q7i,List.append_assoc,List.getD_eq_getElem?_getD,hκ,hx];rfl
       obtain⟨LN,hLN⟩:=nam (nxtL rows fs i++nxtR rows fs i c);rw[<-hLN]at Z Hnx;have hlen:LN.length<=1000000:=by
        rw[hLN,List.length_append,q3k,q6g,hfl];have h1:i*cn<=200*256:=Nat.mul_le_mul (by omega) (by omega);omega
       obtain⟨na,ncap,evn,_⟩:=Z.on.il;obtain⟨nlen,hnl⟩:=nam LN.length;rw[<-hnl]at evn;have Hvn:=hyd evn;have cm:=(Z.c 3 _ rfl).1;rw[evn]at cm;have HZ:=hyd Z;obtain⟨gL,hgL⟩:=nam g6;obtain⟨capL,hcapL⟩:=nam cap6;rw[<-hgL,<-hcapL]at HZ HSS;have HgL:=hyd2 hgL hcapL;clear Z hP0 hO0 hR0 hκ cf hgd crw ilx cx hx hlw hLN evn hnl hfl hgL hcapL hfm;go_wp2_with fail;have hS0:(fun w'=>w'.cell? ⟨rb,ro+i,none⟩=some (.slice (some ⟨xb,xo,none⟩) 256 xc)/\w'.cell? ⟨fg,fo+c,none⟩=some (.int .i64 (κ:Int))/\w'.cell? ⟨xb,xo+κ,none⟩=some (.int .i64 x)) wr.drew:=⟨s1,s2,s3⟩;refine wp_region_held_drew (S:=fun w'=>w'.cell? ⟨rb,ro+i,none⟩=some (.slice (some ⟨xb,xo,none⟩) 256 xc)/\w'.cell? ⟨fg,fo+c,none⟩=some (.int .i64 (κ:Int))/\w'.cell? ⟨xb,xo+κ,none⟩=some (.int .i64 x)) (by kernel_rfl) hS0 (fun hHeld=>?_);refine wpAnyH_take (i:=0) (oi:=?oJ0) (v:=?vJ0) ?hiJ0 ?hsJ0 ?hfJ0 ?hrJ0 ?hQJ0 (Or.inl ⟨?hwJ0,?hyJ0⟩) ?hSJ0 ?restJ0
       case hiJ0=>simp only[List.getElem?_toArray,List.getElem?_cons_zero];rfl
       case hsJ0=>kernel_rfl
       case hfJ0=>kernel_rfl
       case hrJ0=>kernel_rfl
       case hQJ0=>exact fun _ _ _ h=>h
       case hSJ0=>assumption
       case hwJ0=>rfl
       case hyJ0=>intro w' hSw;obtain⟨s1,s2,s3⟩:=hSw;go_simp;first|done|with_reducible rfl
       (try simp only[psm])
       refine wpAnyH_take (i:=2) (by simp only[gel];rfl) (by kernel_rfl) (by kernel_rfl) (by kernel_rfl) (by exact fun _ _ _ h=>h) (Or.inl ⟨by rfl,by intro w' hSw;obtain⟨s1,s2,s3⟩:=hSw;go_simp;first|done|with_reducible rfl⟩) (by assumption) ?_
       (try simp only[psm])
       refine wpAnyH_take (i:=3) (by simp only[gel];rfl) (by kernel_rfl) (by kernel_rfl) (by kernel_rfl) (by exact fun _ _ _ h=>h) (Or.inl ⟨by rfl,by intro w' hSw;obtain⟨s1,s2,s3⟩:=hSw;go_simp;first|done|with_reducible rfl⟩) (by assumption) ?_
       (try simp only[psm])
       refine wpAnyH_take (i:=4) (by simp only[gel];rfl) (by kernel_rfl) (by kernel_rfl) (by kernel_rfl) (by exact fun _ _ _ h=>h) (Or.inl ⟨by rfl,by intro w' hSw;obtain⟨s1,s2,s3⟩:=hSw;go_simp;first|done|with_reducible rfl⟩) (by assumption) ?_
       (try simp only[psm])
       refine wpAnyH_take (i:=5) (by simp only[gel];rfl) (by kernel_rfl) (by kernel_rfl) (by kernel_rfl) (by exact fun _ _ _ h=>h) (Or.inl ⟨by rfl,by intro w' hSw;obtain⟨s1,s2,s3⟩:=hSw;go_simp;first|done|with_reducible rfl⟩) (by assumption) ?_
       (try simp only[psm])
       refine wpAnyH_take (i:=6) (by simp only[gel];rfl) (by kernel_rfl) (by kernel_rfl) (by kernel_rfl) (by exact fun _ _ _ h=>h) (Or.inl ⟨by rfl,by intro w' hSw;obtain⟨s1,s2,s3⟩:=hSw;go_simp;first|done|with_reducible rfl⟩) (by assumption) ?_
       (try simp only[psm])
       refine wpAnyH_take (i:=7) (by simp only[gel];rfl) (by kernel_rfl) (by kernel_rfl) (by kernel_rfl) (by exact fun _ _ _ h=>h) (Or.inl ⟨by rfl,by intro w' hSw;obtain⟨s1,s2,s3⟩:=hSw;go_simp;first|done|with_reducible rfl⟩) (by assumption) ?_
       (try simp only[psm])
       refine wpAnyH_take (i:=8) (by simp only[gel];rfl) (by kernel_rfl) (by kernel_rfl) (by kernel_rfl) (by exact fun _ _ _ h=>h) (Or.inl ⟨by rfl,by intro w' hSw;obtain⟨s1,s2,s3⟩:=hSw;go_simp;first|done|with_reducible rfl⟩) (by assumption) ?_
       (try simp only[psm])
       refine wpAnyH_take (i:=9) (by simp only[gel];rfl) (by kernel_rfl) (by kernel_rfl) (by kernel_rfl) (by exact fun _ _ _ h=>h) (Or.inl ⟨by rfl,by intro w' hSw;obtain⟨s1,s2,s3⟩:=hSw;go_simp;first|done|with_reducible rfl⟩) (by assumption) ?_
       (try simp only[psm])
       refine wpAnyH_take (i:=10) (by simp only[gel];rfl) (by kernel_rfl) (by kernel_rfl) (by kernel_rfl) (by exact fun _ _ _ h=>h) (Or.inl ⟨by rfl,by intro w' hSw;obtain⟨s1,s2,s3⟩:=hSw;go_simp;first|done|with_reducible rfl⟩) (by assumption) ?_
       (try simp only[psm])
       refine wpAnyH_take (i:=11) (by simp only[gel];rfl) (by kernel_rfl) (by kernel_rfl) (by kernel_rfl) (by exact fun _ _ _ h=>h) (Or.inl ⟨by rfl,by intro w' hSw;obtain⟨s1,s2,s3⟩:=hSw;go_simp;first|done|with_reducible rfl⟩) (by assumption) ?_
       (try simp only[psm])
       obtain⟨W3,hW3⟩:=nam (wr.drew.alloc (.cells #[.int .i64 x] 3));have q4:=cm;have Zd:=HZ.out.below (Below.refl wr.heap.size wr).drew hmw;have x3:Below wr.drew.heap.size wr.drew W3:=by rw[hW3];exact box_bel wr.drew _
       have Z3:=Zd.below x3 hmw;have q4':W3.cell? ⟨mb,3,none⟩=some (.slice na nlen ncap):=by rw[<-Hvn.out];exact(Z3.c 3 _ rfl).1
       have hS3:=HSS.out _ _ W3 Z3;refine q2P (fuel:=3) 1 12 (oi:=?Jp1) (ok:=?Jpk) (vi:=.slice na nlen ncap) (vk:=.slice (some ⟨wr.drew.heap.size,0,none⟩) 1 1) (L:=#[true,true,true,true,true,true,true,true,true,true,true,true,true,false,false,false]) (A:=?JA) (w':=W3)
        ?Jh1 ?Jhk ?Jg1 ?Jgk ?Jr0 ?Jr1 ?Jr2 ?Jxi ?Jyi ?Jxk ?Jyk ?Jl1 ?Jl2 ?Jf1 ?Jf2 ?JhS ?JhSp ?Jfin
       case Jh1=>simp only[gel];rfl
       case Jhk=>simp only[gel];rfl
       case Jg1=>rfl
       case Jgk=>rfl
       case Jr0=>kernel_rfl
       case Jr1=>kernel_rfl
       case Jr2=>kernel_rfl
       case Jxi=>go_simp
       case Jyi=>clear hW3;simp only[psm];go_simp
       case Jxk=>rw[hW3];exact q1a _ rfl x rfl
       case Jyk=>rw[hW3];exact q1a _ rfl x rfl
       case Jl1=>kernel_rfl
       case Jl2=>kernel_rfl
       case Jf1=>simp only[psm];rfl
       case Jf2=>simp only[psm]
       case JhS=>exact hHeld
       case JhSp=>exact hS3
       have hnw:W3.cell? ⟨wr.drew.heap.size,0,none⟩=some (.int .i64 x):=by rw[hW3,World.cell?_alloc_new];rfl
       have hO3:=Z3.on;have hbs:=Z3.b.size;refine wpAnyH_ready (rs:=[13]) (by kernel_rfl) (by simp) ?_;refine AllReadyH.cons (o:=?oJ13) ?hiJ13 (fun K hK=>?_) AllReadyH.nil
       case hiJ13=>simp only[gel];rfl
       rw[if_pos (by rfl)];refine q2k _ _ rfl W0.heap.size vn LN (by rw[Hvn.out];rfl) hO3 hlen wr.drew.heap.size x rfl hnw hbs _ rfl ?_;intro g6 cap6 w6 hO6 hgrow hgb6 hl6;rw[<-Hnx.out]at hO6;rw[hW3]at hgrow hgb6;obtain⟨p1,p2,Z6⟩:=Zd.putN hmw hO6 hgrow hgb6;have hS6:(fun w'=>w'.cell? ⟨rb,ro+i,none⟩=some (.slice (some ⟨xb,xo,none⟩) 256 xc)/\w'.cell? ⟨fg,fo+c,none⟩=some (.int .i64 (κ:Int))/\w'.cell? ⟨xb,xo+κ,none⟩=some (.int .i64 x)) w6:=by
        have hvb:=Zd.on.blk;obtain⟨y1,y2,y3⟩:=hS3;rw[hW3]at y1 y2 y3;obtain⟨z1,z2,z3⟩:=Hlt.out;refine⟨?_,?_,?_⟩
        ·rw[hgrow.cell_far _ (World.block_lt_of_cell? _ _ y1) (fun e=>by have:=(hvb _ e.symm).1;simp only at this;omega)];exact y1
        ·rw[hgrow.cell_far _ (World.block_lt_of_cell? _ _ y2) (fun e=>by have:=(hvb _ e.symm).1;simp only at this;omega)];exact y2
        ·rw[hgrow.cell_far _ (World.block_lt_of_cell? _ _ y3) (fun e=>by have:=(hvb _ e.symm).1;simp only at this;omega)];exact y3
       refine hK.out _ _ hS6 (fun hHeld=>?_);clear hK K;obtain⟨W7,hW7⟩:=nam (w6.setCell ⟨mb,3,none⟩ (.slice (some ⟨g6,0,none⟩) (LN.length+1) cap6));rw[<-hW7]at Z6;have HW7:=hyd hW7;have hS7:=HSS.out _ _ W7 Z6;rw[Hvn.out]at p1
       (try simp only[psm])
       clear hW7 hO6 hgrow hgb6 hl6 Z3 hO3 hbs hnw Zd x3 q4 q4' hW3 cm HZ hS3 hS0 s1 s2 s3;refine wpAnyH_take (i:=14) (by simp only[gel];rfl) (by kernel_rfl) (by kernel_rfl) (by kernel_rfl) (by exact fun _ _ _ h=>h) (Or.inl ⟨by rfl,by intro w' hSw;obtain⟨s1,s2,s3⟩:=hSw;go_simp;first|done|with_reducible rfl⟩) (by assumption) ?_
       (try simp only[psm])
       refine wpAnyH_ready (rs:=[15]) (by kernel_rfl) (by simp) ?_;refine AllReadyH.cons (o:=?oJ15) ?hiJ15 (fun K hK=>?_) AllReadyH.nil
       case hiJ15=>simp only[gel];rfl
       go_simp;rw[<-HW7.out];refine hK.out _ _ hS7 (fun hHeld=>?_);clear hK K;refine wpAnyH_done (by kernel_rfl) ?_ _;go_wp2_with fail
       (try simp only[Act.put])
       rw[HgL.out.1,HgL.out.2]at Z6;go_roundw
       case rel=>exact⟨c+1,_,by omega,by go_num,Z6⟩
       case measure=>simp[intOf];omega
      ·have hge:¬(c:Int)<cn:=by omega
       have hcc:c=cn:=by omega
       have Z2:MR mb W0 (.int .i64 rules) (.slice (some ⟨cb,0,none⟩) 256 256) (.slice (some ⟨g6,0,none⟩) (i+1) cap6) vn (labO vd O (i+1)) (nxtL rows fs (i+1)) wr:=by
        rw[q4C,hfl,<-hcc];exact Z
       clear Z hfl hcc;go_wp2_with fail;go_roundw
       case rel=>exact⟨i+1,_,_,by omega,by go_num,Z2⟩
       case measure=>simp[intOf];omega
    ·have hge:¬(i:Int)<ol:=by omega
     have hiN:i=ol:=by omega
     rw[hiN]at Z;have rM:=Z.c.range;have tz:=T0.there;have e1:=Hmb.out;have e2:=Hcb.out;obtain⟨la,lc,evl,ill⟩:=Z.ol.il;rw[q4e]at evl ill;obtain⟨na,nc,evn,iln⟩:=Z.on.il;rw[q3k]at evn iln;have hfl:fs.length=cnt E 256:=by rw[Hfs.out];rfl
     rw[hfl]at evn iln;have hlb:=Z.ol.blk;have hnb:=Z.on.blk;subst evl;subst evn;have hG2:=q0e w.heap.size [.int .i64 rules,.slice (some ⟨cb,0,none⟩) 256 256,.slice la ol lc,.slice na (ol*cnt E 256) nc] 0 wr;have hrr:=World.rangeAt_setCells_same wr w.heap.size 0 [.int .i64 rules,.slice (some ⟨cb,0,none⟩) 256 256,.slice la ol lc,.slice na (ol*cnt E 256) nc] tz;have hfin:=run_loadVar_mid (P:=Tryz.prog) (wr.setCells w.heap.size 0 [.int .i64 rules,.slice (some ⟨cb,0,none⟩) 256 256,.slice la ol lc,.slice na (ol*cnt E 256) nc]) w.heap.size 0 25 [.int .i64 rules,.slice (some ⟨cb,0,none⟩) 256 256,.slice la ol lc,.slice na (ol*cnt E 256) nc] _ hrr Tryz.underlying25 rfl q0D;have BX:=Bw.grown hG2 Bw.size (fun q hq=>by cases hq;omega);have HR:Hid (MaR rules O rows vd w (.returned (.agg #[.int .i64 rules,.slice (some ⟨cb,0,none⟩) 256 256,.slice la ol lc,.slice na (ol*cnt E 256) nc])) (wr.setCells w.heap.size 0 [.int .i64 rules,.slice (some ⟨cb,0,none⟩) 256 256,.slice la ol lc,.slice na (ol*cnt E 256) nc])):=by
      refine⟨BX,some ⟨cb,0,none⟩,256,la,lc,na,nc,?_,⟨?_,?_,?_⟩,?_,?_,?_⟩
      ·rw[<-Hol.out,<-HEq.out]
      ·intro k o e;cases e;omega
      ·intro k o e;have:=(hlb k (by rw[e];rfl)).1;omega
      ·intro k o e;have:=(hnb k (by rw[e];rfl)).1;omega
      ·rw[<-Hol.out,<-HEq.out];exact(y2w T1).heap (fun k hl ⟨o,e⟩=>hG2.block k hl (fun h=>by cases e;have:=Option.some.inj h;omega))
      ·rw[<-Hol.out];exact(ill.heap (fun k hl ⟨o,e⟩=>hG2.block k hl (fun h=>by have:=Option.some.inj h;have:=(hlb k (by rw[e];rfl)).1;omega))).congr (fun i hi=>y2N vd O hi)
      ·rw[<-Hol.out,<-HEq.out,<-Hfs.out];exact iln.heap (fun k hl ⟨o,e⟩=>hG2.block k hl (fun h=>by have:=Option.some.inj h;have:=(hnb k (by rw[e];rfl)).1;omega))
     obtain⟨nn,hnn⟩:=nam (ol*cnt E 256);rw[<-hnn]at hfin HR rM;obtain⟨WX,hWX⟩:=nam (wr.setCells w.heap.size 0 [.int .i64 rules,.slice (some ⟨cb,0,none⟩) 256 256,.slice la ol lc,.slice na nn nc]);rw[<-hWX]at hfin HR;have HWX:=hyd hWX;have Hfin:=hyd hfin;clear Z Bw T0 T1 ilf hG2 hrr hfin BX hlb hnb ill iln hWX e1 e2 hiN hfl hnn;go_wp2_with (first|(with_reducible refine gld 25 ?_;refine Stop.out ?_));refine⟨?_⟩;refine wpList_load_mid rfl 25 _ rfl mb 0 rfl [.int .i64 rules,.slice (some ⟨cb,0,none⟩) 256 256,.slice la ol lc,.slice na nn nc] _ rM Tryz.underlying25 rfl q0D ?_
     (try simp only[psm])
     refine wpList_store_mid rfl 25 _ _ rfl w.heap.size 0 #[.int .i64 rules,.slice (some ⟨cb,0,none⟩) 256 256,.slice la ol lc,.slice na nn nc] rfl rfl tz q0D (by simp[Value.oneCell']) ?_;rw[List.toList_toArray,<-HWX.out];go_wp2_with fail;exact bodyPost_ret (v:=.agg #[.int .i64 rules,.slice (some ⟨cb,0,none⟩) 256 256,.slice la ol lc,.slice na nn nc]) (res_load1 Tryz.results31 rfl Hfin.out) rfl HR.out
end Go.Proofs.YtoaaklhpmhjhkaaGreat
