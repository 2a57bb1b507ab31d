import Derived.StillTailTactics
import Derived.Test.YtoaaklhpmhjhkabGreatC07
set_option maxRecDepth 100000
set_option maxHeartbeats 4000000
set_option linter.all false
namespace Go.Proofs.YtoaaklhpmhjhkabGreat
open Go.RowKit
open Bm
variable {a:Act}{ops:Array Oper}{rest:List Oper}{bh:Nat->N_}{op:Oper}{ba:Option Addr}{P:Program}{W W' w w':World}
theorem Wo {Q:Act->Prop} (hw:Region.wanted op (yielded ops a.tmps)=true) (ty:TypeId) (x:Operand) (ho:op.op=.load ty x)
  (b o:Nat) (hx:a.eval x=.pointer (some ⟨b,o,none⟩)) (cs:List Value) (d:TypeDesc) (hc:w.rangeAt b o cs)
  (hu:P.underlying ty=some d) (hd:d.isRow=true) (hi:(P.info? ty).map (·.size)=some cs.length)
  (h:wpStill P ops w Q rest (a.put op.dst (.agg cs.toArray))):wpStill P ops w Q (op::rest) a:=
 wpStill_step fun K hK=>by
  rw[if_pos hw];unfold Oper.still execOp;simp only[ho,hx,Instr.loadAt,Instr.sureAddr,Sem.run_bind,Sem.run_pure,Result.andThen_ok,run_loadVar_mid w b o ty cs d hc hu hd hi];exact⟨rfl,hK _ h⟩
def BH (ba:Option Addr) (bh:Nat->Nat->Bool) (P:Nat) (w:World):Prop:=∀p,p<P->∃blk off,ba=some ⟨blk,off,none⟩/\w.rangeAt blk (off+p*104) (bl (bh p) 104)
theorem BH.below {P:Nat} (h:BH ba bh P w) (hW:Below w.heap.size w w'):BH ba bh P w':=fun p hp=>by
 obtain⟨blk,off,e,hc⟩:=h p hp;refine⟨blk,off,e,fun j v hv=>?_⟩;have:=hc j v hv;rw[hW.cell (p:=⟨blk,off+p*104+j,none⟩) (World.block_lt_of_cell? w _ this)];exact this
def YI (hs bh:Nat->Nat->Bool) (f:Nat->Bool) (b:Nat) (n q:Nat):Bool:=(List.range n).any fun p=>f p&&hs p b&&bh p q
theorem L7 (hs bh:Nat->Nat->Bool) (f:Nat->Bool) (b n q:Nat):YI hs bh f b (n+1) q=(YI hs bh f b n q || (f n&&hs n b&&bh n q)):=by
 simp[YI,List.range_succ]
structure AF (w:World) (f c:Nat->Bool) (W:World):Prop where
 n:TC w.heap.size (bl f 104) W
 z:TC (w.heap.size+1) (bl (fun _=>false) 104) W
 a:TC (w.heap.size+2) (bl c 104) W
 b:Below w.heap.size w W
theorem AF.below {f c:Nat->Bool} (h:AF w f c W) (hW:Below W.heap.size W W'):AF w f c W':=
 ⟨h.n.block (hW.block _ h.n.ltB),h.z.block (hW.block _ h.z.ltB),h.a.block (hW.block _ h.a.ltB),h.b.trans (hW.mono h.b.size)⟩
theorem J3 (nb:Nat) (ha:Option Addr) (hc P:Nat) (hs:Nat->Nat->Bool) (ba:Option Addr) (bc:Nat) (bh:Nat->Nat->Bool) (f:Nat->Bool) (b:Nat) (w:World) (hP:P<=96) (hb:b<256)
  (hc0:w.cell? ⟨nb,0,none⟩=some (.slice ha P hc)) (hc1:w.cell? ⟨nb,1,none⟩=some (.slice ba P bc)) (hH:HS ha hs P w) (hB:BH ba bh P w):
  Calls Tryz.prog 41 #[.pointer (some ⟨nb,0,none⟩),.agg (bl f 104).toArray,.int .u8 b] w fun e w'=>e=.returned (.agg (bl (YI hs bh f b P) 104).toArray)/\Below w.heap.size w w':=by
 have hz:=Uz;have hb':(b:Int)<256:=by omega
 have HN:Hid (∀w',Below w.heap.size w w'->w'.cell? ⟨nb,0,none⟩=some (.slice ha P hc)/\w'.cell? ⟨nb,1,none⟩=some (.slice ba P bc)/\HS ha hs P w'/\BH ba bh P w'):=fun w' h'=>by
  have e:∀k,w'.cell? ⟨nb,k,none⟩=w.cell? ⟨nb,k,none⟩:=fun k=>h'.cell (p:=⟨nb,k,none⟩) (World.block_lt_of_cell? w ⟨nb,0,none⟩ hc0)
  exact⟨by rw[e];exact hc0,by rw[e];exact hc1,hH.below h',hB.below h'⟩
 clear hc0 hc1 hH hB;obtain⟨W,hW⟩:=nam (((w.alloc (.cells (bl f 104).toArray 62)).alloc (.cells (bl (fun _=>false) 104).toArray 62)).alloc (.cells (bl (fun _=>false) 104).toArray 62));have S0:AF w f (YI hs bh f b 0) W:=by
  have h1:(w.alloc (.cells (bl f 104).toArray 62)).heap.size=w.heap.size+1:=by simp
  have h2:((w.alloc (.cells (bl f 104).toArray 62)).alloc (.cells (bl (fun _=>false) 104).toArray 62)).heap.size=w.heap.size+2:=by simp
  have T1:=TC.boxed w (bl f 104) 62;have T2:=TC.boxed (w.alloc (.cells (bl f 104).toArray 62)) (bl (fun _=>false) 104) 62;have T3:=TC.boxed ((w.alloc (.cells (bl f 104).toArray 62)).alloc (.cells (bl (fun _=>false) 104).toArray 62)) (bl (fun _=>false) 104) 62;rw[h1]at T2;rw[h2,<-hW]at T3;have x1:=box_bel w (.cells (bl f 104).toArray 62);have x2:=box_bel (w.alloc (.cells (bl f 104).toArray 62)) (.cells (bl (fun _=>false) 104).toArray 62);have x3:=box_bel ((w.alloc (.cells (bl f 104).toArray 62)).alloc (.cells (bl (fun _=>false) 104).toArray 62)) (.cells (bl (fun _=>false) 104).toArray 62);rw[<-hW]at x3;exact⟨(T1.block (x2.block _ T1.ltB)).block (x3.block _ (by omega)),T2.block (x3.block _ (by omega)),T3,(x1.trans (x2.mono (by omega))).trans (x3.mono (by omega))⟩
 go_enter Tryz.func41,Tryz.ntmps41;go_wp2_with fail;rw[<-hW];clear hW
 go_loopw [8] (fun x w'=>∃p:Nat,p<=P/\x=.int .i64 p/\AF w f (YI hs bh f b p) w') (fun x _=>P-(intOf x).toNat)
 case atStart=>exact⟨0,by omega,rfl,S0⟩
 case round=>
  clear S0;obtain⟨p,hp,rfl,S⟩:=hrel;obtain⟨c0,c1,hH,hB⟩:=HN.out wr S.b;by_cases hlt:p<P
  ·have hlt':(p:Int)<P:=by omega
   have hp96:(p:Int)<96:=by omega
   have cf:=(S.n p _ (YK _ (by omega))).1;obtain⟨g1,o1,e1,k1⟩:=hH p b hlt hb;subst e1;obtain⟨g2,o2,e2,k2⟩:=hB p hlt;have hsu:∀q,YI hs bh f b (p+1) q=(YI hs bh f b p q || (f p&&hs p b&&bh p q)):=fun q=>L7 _ _ _ _ _ _
   have Hsu:=hyd hsu;clear hH hB hsu;obtain⟨x,hx⟩:=nam (f p);obtain⟨y,hy⟩:=nam (hs p b);rw[<-hx,<-hy]at Hsu;rw[<-hx]at cf;rw[<-hy]at k1;clear hx hy;cases x
   ·have hcg:bl (YI hs bh f b (p+1)) 104=bl (YI hs bh f b p) 104:=YR (fun q _=>by rw[Hsu.out q];simp);have S2:AF w f (YI hs bh f b (p+1)) wr:=⟨S.n,S.z,by rw[hcg];exact S.a,S.b⟩;clear hcg;clear S k2;go_wp2_with fail;go_roundw
    case rel=>exact⟨p+1,by omega,by go_num,S2⟩
    case measure=>simp[intOf];omega
   cases y
   ·have hcg:bl (YI hs bh f b (p+1)) 104=bl (YI hs bh f b p) 104:=YR (fun q _=>by rw[Hsu.out q];simp);have S2:AF w f (YI hs bh f b (p+1)) wr:=⟨S.n,S.z,by rw[hcg];exact S.a,S.b⟩;clear hcg;clear S k2;go_wp2_with fail;go_roundw
    case rel=>exact⟨p+1,by omega,by go_num,S2⟩
    case measure=>simp[intOf];omega
   subst e2;have hra:=S.a.range;have HS1:=hyd S;clear S;go_wp2_with fail;refine wp_region_still_tail 8 (by kernel_rfl) (by kernel_rfl) ?_;simp only[List.take_succ_cons,List.take_zero,List.drop_succ_cons,List.drop_zero];change wpStill _ _ wr.drew (fun a'=>wpList _ _ _ _ a' wr.drew) _ _;refine Wo rfl 62 _ rfl (w.heap.size+2) 0 rfl (bl (YI hs bh f b p) 104) _ (fun j v hv=>hra j v hv) u_e rfl (by rw[Y7];exact YB) ?_
   repeat still_step
   refine Wo rfl 62 _ rfl g2 (o2+p*104) rfl (bl (bh p) 104) _ (fun j v hv=>k2 j v hv) u_e rfl (by rw[Y7];exact YB) ?_;refine wpStill_nil ?_;have SD:=HS1.out.below (Below.refl _ _).drew;have HC:Hid (Calls Tryz.prog 70 #[.agg (bl (YI hs bh f b p) 104).toArray,.agg (bl (bh p) 104).toArray] wr.drew fun e w'=>e=.returned (.agg (bl (fun q=>YI hs bh f b p q || bh p q) 104).toArray)/\Below wr.drew.heap.size wr.drew w'):=KO _ _ _;clear HS1 hra c0 c1 cf k1 k2;go_wp2_with fail;refine HC.out.mono ?_;rintro e w2 ⟨rfl,hW2⟩;have S2:=SD.below hW2;obtain⟨L,hL⟩:∃L,L=bl (fun q=>YI hs bh f b p q || bh p q) 104:=⟨_,rfl⟩;have hLl:L.length=104:=by rw[hL];exact Y7 _ _
   have hL2:L=bl (YI hs bh f b (p+1)) 104:=by rw[hL];exact YR (fun q _=>by rw[Hsu.out q];simp)
   have hth:w2.there (w.heap.size+2) 0 104:=by have:=S2.a.there;rw[Y7]at this;exact this
   have hg:=Y6 (w.heap.size+2) L 0 w2;have S3:AF w f (YI hs bh f b (p+1)) (w2.setCells (w.heap.size+2) 0 L):=by
    refine⟨S2.n.block (hg.block _ S2.n.ltB (fun e=>by have:=Option.some.inj e;omega)),S2.z.block (hg.block _ S2.z.ltB (fun e=>by have:=Option.some.inj e;omega)),fun k v hv=>?_,S2.b.grown hg S2.b.size (fun q hq=>by cases hq;omega)⟩;rw[<-hL2]at hv;have h1:=World.rangeAt_setCells_same w2 (w.heap.size+2) 0 L (by rw[hLl];exact hth) k v hv;have hk:k<104:=by have:=(List.getElem?_eq_some_iff.1 hv).1;omega
    have h2:=(hth k hk).2;rw[Nat.zero_add]at h1 h2;exact⟨h1,by rw[World.frozen?_setCells];exact h2⟩
   have HO1:Hid (L.toArray.all (·.oneCell')=true):=by show _=true;rw[hL];exact YO _ _
   have HLl:=hyd hLl;rw[<-hL];clear SD HC hW2 S2 hL hLl hL2 hg Hsu;go_wp2_with (first|(refine wpList_store_mid rfl 62 _ _ rfl (w.heap.size+2) 0 L.toArray rfl rfl (by simpa[HLl.out]using hth) (by simpa[HLl.out]using YB) HO1.out ?_;rw[List.toList_toArray]));go_roundw
   case rel=>exact⟨p+1,by omega,by go_num,S3⟩
   case measure=>simp[intOf];omega
  ·have hge:¬(p:Int)<P:=by omega
   have hpP:p=P:=by omega
   subst hpP;obtain⟨L,hL⟩:=nam (bl (YI hs bh f b p) 104);have hLl:L.length=104:=by rw[hL];exact Y7 _ _
   have Sa:=S.a;rw[<-hL]at Sa;have hrg:=Sa.range;have hth:wr.there (w.heap.size+1) 0 104:=by have:=S.z.there;rw[Y7]at this;exact this
   have hG:=Y6 (w.heap.size+1) L 0 wr;have hr':=World.rangeAt_setCells_same wr (w.heap.size+1) 0 L (by rw[hLl];exact hth);have hfin:=run_loadVar_mid (P:=Tryz.prog) (wr.setCells (w.heap.size+1) 0 L) (w.heap.size+1) 0 62 L _ hr' u_e rfl (by rw[hLl];exact YB);obtain⟨W9,hW9⟩:=nam (wr.setCells (w.heap.size+1) 0 L);rw[<-hW9]at hG hfin;have HW9:=hyd hW9;have Hfin:=hyd hfin;have HO1:Hid (L.toArray.all (·.oneCell')=true):=by show _=true;rw[hL];exact YO _ _
   have HLl:=hyd hLl;have HL:=hyd hL;have hSb:=S.b;clear hW9 hr' hfin hL hLl S Sa hH hB;go_wp2_with (first|(refine wpList_load_mid rfl 62 _ rfl (w.heap.size+2) 0 rfl L _ hrg u_e rfl (by rw[HLl.out];exact YB) ?_)|(refine wpList_store_mid rfl 62 _ _ rfl (w.heap.size+1) 0 L.toArray rfl rfl (by simpa[HLl.out]using hth) (by simpa[HLl.out]using YB) HO1.out ?_;rw[List.toList_toArray,<-HW9.out]));refine bodyPost_ret (v:=.agg L.toArray) (res_load1 Tryz.results41 rfl Hfin.out) rfl ?_;exact⟨by rw[HL.out],hSb.grown hG hSb.size (fun q hq=>by cases hq;omega)⟩
end Go.Proofs.YtoaaklhpmhjhkabGreat
