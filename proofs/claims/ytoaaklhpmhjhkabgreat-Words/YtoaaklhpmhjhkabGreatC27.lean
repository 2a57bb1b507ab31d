import Derived.Test.YtoaaklhpmhjhkabGreatC26
set_option maxRecDepth 100000
set_option maxHeartbeats 4000000
set_option linter.all false
namespace Go.Proofs.YtoaaklhpmhjhkabGreat
open Go.RowKit
open Bm
open Pg (Pt)
def FR (F:Nat->Bool) (e:Rx) (n r:Nat):Nat->Bool:=fun q=>if q<96 then F q || e.fst n q else if q=96+r then e.nul else F q
def J8 (bh:Nat->Nat->Bool) (e:Rx) (n r m:Nat):Nat->Nat->Bool:=fun p q=>UW bh e n p q || (decide (p<m)&&decide (q=96+r)&&e.lst n p)
theorem VG (b:Nat):∀(vs:List Value) (o k:Nat) (w:World),(k<o\/o+vs.length<=k)->(w.setCells b o vs).cell? ⟨b,k,none⟩=w.cell? ⟨b,k,none⟩
 |[],_,_,_,_=>rfl
 |v::vs,o,k,w,h=>by
  simp only[List.length_cons]at h;rw[World.setCells,VG b vs (o+1) k _ (by omega),World.cell?_setCell_other _ _ _ _ (by intro he;cases he;omega)]
variable {tmps:Array Value}{s:ByteArray}{fn:Func}{xs:List Value}{base base' n nb size:Nat}{F:N_}{bh hs:Nat->N_}{v vb vh:Value}{w:World}
theorem YH.first (h:YH nb base vh vb n hs bh F w) (hnb:nb<base) (o m:Nat) (g:Nat->Bool) (hm:o+m<=104):
  YH nb base vh vb n hs bh (XM F o m g) (w.setCells nb (2+o) (bl g m))/\w.there nb (2+o) m/\NF nb vh vb vh vb w (w.setCells nb (2+o) (bl g m)):=by
 have hg:=Y6 nb (bl g m) (2+o) w;have hc:∀j,j<104->w.cell? ⟨nb,2+j,none⟩=some (.bool (F j))/\w.frozen? ⟨nb,2+j,none⟩=false:=fun j hj=>h.c (2+j) _ (by rw[show 2+j=j+1+1 by omega];simp only[List.getElem?_cons_succ];exact YK F hj)
 have hth:w.there nb (2+o) m:=fun j hj=>by
  obtain⟨h1,h2⟩:=hc (o+j) (by omega);rw[show 2+(o+j)=2+o+j by omega]at h1 h2;exact⟨by rw[h1];rfl,h2⟩
 refine⟨⟨fun k v hv=>?_,h.h.keep (fun k hk=>hg.block k (h.h.blk k hk).2 (fun e=>by have:=Option.some.inj e;have:=(h.h.blk k hk).1;omega)),h.b.keep (fun k hk=>hg.block k (h.b.blk k hk).2 (fun e=>by have:=Option.some.inj e;have:=(h.b.blk k hk).1;omega)),h.ne⟩,hth,⟨(Below.refl _ _).grown hg (by have:=h.c.lt;omega) (fun q hq=>by cases hq;omega),fun k h1 h2 _ _=>hg.block k h1 (fun e=>h2 (Option.some.inj e)),fun _ h=>Or.inl h,fun _ h=>Or.inl h⟩⟩;rw[World.frozen?_setCells];have hk:k<106:=by have:=(List.getElem?_eq_some_iff.1 hv).1;simp[Y7]at this;omega
 by_cases h1:2+o<=k/\k<2+o+m
 ·obtain⟨j,rfl⟩:∃j,k=2+o+j:=⟨k-(2+o),by omega⟩;have hr:=World.rangeAt_setCells_same w nb (2+o) (bl g m) (by rw[Y7];exact hth) j (.bool (g j)) (YK g (by omega));have hv2:v=.bool (g j):=by
   rw[show 2+o+j=(o+j)+1+1 by omega]at hv;simp only[List.getElem?_cons_succ]at hv;rw[YK _ (by omega)]at hv;unfold XM at hv;rw[if_pos (by omega),show o+j-o=j by omega]at hv;exact(Option.some.inj hv).symm
  rw[hv2];refine⟨hr,?_⟩;obtain⟨_,h2⟩:=hc (o+j) (by omega);rw[show 2+(o+j)=2+o+j by omega]at h2;exact h2
 ·have hv2:(vh::vb::bl F 104)[k]?=some v:=by
   rcases k with _|_|k
   ·exact hv
   ·exact hv
   ·simp only[List.getElem?_cons_succ]at hv ⊢;rw[YK _ (by omega)]at hv ⊢;unfold XM at hv;rw[if_neg (by omega)]at hv;exact hv
  obtain⟨h2,h3⟩:=h.c k v hv2;refine⟨?_,h3⟩;rw[VG _ _ _ _ _ (by rw[Y7];omega)];exact h2
theorem GR (f:Nat) (qs:List Tq) (e:Rx) (ps:List Pt) (ad:Option Addr) (cap nb base:Nat) (vh vb:Value) (n:Nat) (hs bh:Nat->Nat->Bool) (F:Nat->Bool) (r:Nat) (w:World) (hp:Pp f 2 qs e) (hb:X9 Sm ps qs) (hpre:UD nb base vh vb n hs bh F ad cap ps w) (hn:n+e.sz<=96) (hmo:∀p∈ps,0<=p.mo/\p.mo<=9) (hr8:r<8):
  Calls Tryz.prog 39 #[.pointer (some ⟨nb,0,none⟩),.slice ad ps.length cap,.int .i64 r] w fun en w'=>∃vh' vb',en=.returned (.tuple #[])/\YH nb base vh' vb' (n+e.sz) (Va hs e n) (J8 bh e n r (n+e.sz)) (FR F e n r) w'/\NF nb vh vb vh' vb' w w':=by
 have hz:=Xh;have hnw:=hpre.net.c.lt;have hlnb:=hpre.lnb;have HCw:=hyd ((H9 f).2.2 qs e ps ad cap nb base vh vb n hs bh F w hp hb hpre hn hmo);clear hp hb hpre hmo;go_enter Tryz.func39,Tryz.ntmps39;go_wp2_with fail;refine HCw.out.mono ?_;rintro en w3 ⟨vh2,vb2,rfl,N3,F3⟩;obtain⟨b1,b2,b3⟩:=VL w3 (Y1 e n);have ht3:(w3.alloc (.cells (bl (fun _=>false) 193).toArray 142)).there w3.heap.size 0 193:=Yq (TC.boxed w3 _ _);obtain⟨L3,hL3⟩:=nam (bl (Y1 e n) 193);obtain⟨W4,hW4⟩:=nam ((w3.alloc (.cells (bl (fun _=>false) 193).toArray 142)).setCells w3.heap.size 0 (bl (Y1 e n) 193));rw[<-hW4]at b1 b2 b3;rw[<-hL3]at hW4 ⊢;have HL3l:Hid (L3.length=193):=by show _=_;rw[hL3];exact Y7 _ _
 have HOL3:Hid (L3.toArray.all (·.oneCell')=true):=by show _=true;rw[hL3];exact YO _ _
 have HW4:=hyd hW4;have hw3:=F3.b.size;have hn3:=N3.c.lt;have hoC:(∀k,vh2.ownBlock=some k->k<w3.heap.size)/\(∀k,vb2.ownBlock=some k->k<w3.heap.size):=⟨fun k hk=>(N3.h.blk k hk).2,fun k hk=>(N3.b.blk k hk).2⟩;have HoC:=hyd4 hoC.1 hoC.2 hn3 hw3;have N4:=N3.below b2;have F4:=F3.trans (NF.of vh2 vb2 (by omega) b2);have HS4:=hyd3 N4 F4 b1;have g1:=b1.sub 1 96 (by omega);have hcF:W4.rangeAt nb 2 (bl F 96):=fun j v hv=>by
  have hj:j<96:=by have:=(List.getElem?_eq_some_iff.1 hv).1;rw[Y7]at this;exact this
  rw[YK _ hj]at hv;exact(N4.c (2+j) v (by rw[show 2+j=j+1+1 by omega];simp only[List.getElem?_cons_succ];rw[YK _ (by omega)];exact hv)).1
 clear hL3 hW4 N3 F3 hw3 hn3 hoC N4 F4 b1 b2 b3;go_wp2_with (first|(with_reducible refine gst 142 ?_;refine wpList_store_mid rfl 142 _ _ rfl w3.heap.size 0 L3.toArray rfl rfl (by simpa[HL3l.out]using ht3) (by simpa[HL3l.out]using Y3) HOL3.out ?_;rw[List.toList_toArray,<-HW4.out]));have hS0:W4.drew.rangeAt w3.heap.size 1 (bl (fun i=>Y1 e n (1+i)) 96):=g1;have hcFd:W4.drew.rangeAt nb 2 (bl F 96):=hcF;have HCg:Hid (Calls Tryz.prog 69 #[.agg (bl F 96).toArray,.agg (bl (fun i=>Y1 e n (1+i)) 96).toArray] W4.drew fun en w'=>en=.returned (.agg (bl (fun q=>F q || Y1 e n (1+q)) 96).toArray)/\Below W4.drew.heap.size W4.drew w'):=XS _ _ _;refine wp_region_held_drew (S:=fun w'=>w'.rangeAt w3.heap.size 1 (bl (fun i=>Y1 e n (1+i)) 96)) (by kernel_rfl) hS0 (fun hHeld=>?_);clear g1 hcF ht3 HL3l HOL3 HW4 hS0;refine wpAnyH_take (i:=0) (oi:=?o0) (v:=?v0) ?hi0 ?hs0 ?hf0 ?hr0 ?hQ0 (Or.inl ⟨?hw0,?hy0⟩) ?hS0 ?rest0
 case hi0=>simp only[List.getElem?_toArray,List.getElem?_cons_zero];rfl
 case hs0=>kernel_rfl
 case hf0=>kernel_rfl
 case hr0=>kernel_rfl
 case hQ0=>exact fun _ _ _ h=>h
 case hS0=>assumption
 case hw0=>rfl
 case hy0=>intro w' hSw;(try dsimp only at hSw);go_simp;first|done|with_reducible rfl
 (try simp only[psm])
 refine wpAnyH_take (i:=1) (by simp only[gel];rfl) (by kernel_rfl) (by kernel_rfl) (by kernel_rfl) (by exact fun _ _ _ h=>h) (Or.inl ⟨by rfl,by intro w' hSw;(try dsimp only at hSw);go_simp;first|done|with_reducible rfl⟩) (by assumption) ?_
 (try simp only[psm])
 refine wpAnyH_take (i:=2) (by simp only[gel];rfl) (by kernel_rfl) (by kernel_rfl) (by kernel_rfl) (by exact fun _ _ _ h=>h) (Or.inl ⟨by rfl,by intro w' hSw;(try dsimp only at hSw);go_simp;first|done|with_reducible rfl⟩) (by assumption) ?_
 (try simp only[psm])
 refine wpAnyH_take (i:=3) (by simp only[gel];rfl) (by kernel_rfl) (by kernel_rfl) (by kernel_rfl) (by exact fun _ _ _ h=>h) (Or.inl ⟨by rfl,by intro w' hSw;(try dsimp only at hSw);go_simp;first|done|with_reducible rfl⟩) (by assumption) ?_
 (try simp only[psm])
 refine wpAnyH_take (i:=4) (by simp only[gel];rfl) (by kernel_rfl) (by kernel_rfl) (by kernel_rfl) (by exact fun _ _ _ h=>h) (Or.inl ⟨by rfl,by intro w' hSw;(try dsimp only at hSw);go_simp;first|done|with_reducible rfl⟩) (by assumption) ?_
 (try simp only[psm])
 refine wpAnyH_take (i:=6) (by simp only[gel];rfl) (by kernel_rfl) (by kernel_rfl) (by kernel_rfl) (by exact fun _ _ _ h=>h) (Or.inl ⟨by rfl,by intro w' hSw;(try dsimp only at hSw);go_simp;first|done|with_reducible rfl⟩) (by assumption) ?_
 (try simp only[psm])
 refine wpAnyH_take (i:=7) (oi:=?o7) (v:=.agg (bl (fun i=>Y1 e n (1+i)) 96).toArray) ?hi7 ?hs7 ?hf7 ?hr7 ?hQ7 (Or.inl ⟨?hw7,?hy7⟩) ?hS7 ?rest7
 case hi7=>simp only[gel];rfl
 case hs7=>kernel_rfl
 case hf7=>kernel_rfl
 case hr7=>kernel_rfl
 case hQ7=>exact fun _ _ _ h=>h
 case hS7=>assumption
 case hw7=>rfl
 case hy7=>exact fun w' hSw=>X7 59 _ rfl w3.heap.size 1 rfl (bl (fun i=>Y1 e n (1+i)) 96) _ hSw u_b rfl (by rw[Y7];exact Y2)
 (try simp only[psm])
 refine wpAnyH_ready (rs:=[5]) (by kernel_rfl) (by simp) ?_;refine AllReadyH.cons (o:=?o5) ?hi5 (fun K hK=>?_) AllReadyH.nil
 case hi5=>simp only[gel];rfl
 rw[if_pos (by rfl)];unfold Oper.wp;rw[X7 59 _ rfl nb 2 rfl (bl F 96) _ hcFd u_b rfl (by rw[Y7];exact Y2)];refine hK.out _ _ hHeld (fun hHeld=>?_);clear hK K
 (try simp only[psm])
 refine wpAnyH_ready (rs:=[8]) (by kernel_rfl) (by simp) ?_;refine AllReadyH.cons (o:=?o8) ?hi8 (fun K hK=>?_) AllReadyH.nil
 case hi8=>simp only[gel];rfl
 go_simp;refine Calls.mono HCg.out ?_;rintro en w5 ⟨rfl,hB5⟩;have hBd:Below W4.heap.size W4 w5:=(Below.refl _ _).drew.trans hB5;obtain⟨N4,F4,c4⟩:=HS4.out;have N5:=N4.below hBd;have F5:=F4.trans (NF.of vh2 vb2 (by have:=N4.c.lt;omega) hBd);have c5:=c4.block (hBd.block _ c4.ltB);obtain⟨N6,th6,F6⟩:=N5.first hlnb 0 96 (fun q=>F q || Y1 e n (1+q)) (by omega);obtain⟨o1,o2,o3,o4⟩:=HoC.out;obtain⟨Q,hQ⟩:=nam (bl (fun q=>F q || Y1 e n (1+q)) 96);have hQl:Q.length=96:=by rw[hQ];exact Y7 _ _
 have HOQ:Hid (Q.toArray.all (·.oneCell')=true):=by show _=true;rw[hQ];exact YO _ _
 have HQl:=hyd hQl;rw[<-hQ]at N6 F6 ⊢;simp only[Nat.add_zero]at N6 th6 F6;have hw4:=c4.ltB;have c6:=c5.block (F6.k w3.heap.size c5.ltB (by omega) (fun x=>by have:=o1 _ x;omega) (fun x=>by have:=o2 _ x;omega));have hS5:w5.rangeAt w3.heap.size 1 (bl (fun i=>Y1 e n (1+i)) 96):=c5.sub 1 96 (by omega);have hS6:(w5.setCells nb 2 Q).rangeAt w3.heap.size 1 (bl (fun i=>Y1 e n (1+i)) 96):=c6.sub 1 96 (by omega);have HS6:=hyd3 N6 (F5.trans F6) c6;refine hK.out _ _ hS5 (fun hHeld=>?_);clear hK K hB5 hBd N4 F4 c4 N5 F5 c5 N6 F6 c6 o1 o2 o3 o4 hQ hQl hw4 HS4 HCg hcFd hS5
 (try simp only[psm])
 refine wpAnyH_take (i:=9) (by simp only[gel];rfl) (by kernel_rfl) (by kernel_rfl) (by kernel_rfl) (by exact fun _ _ _ h=>h) (Or.inl ⟨by rfl,by intro w' hSw;(try dsimp only at hSw);go_simp;first|done|with_reducible rfl⟩) (by assumption) ?_
 (try simp only[psm])
 refine wpAnyH_take (i:=10) (by simp only[gel];rfl) (by kernel_rfl) (by kernel_rfl) (by kernel_rfl) (by exact fun _ _ _ h=>h) (Or.inl ⟨by rfl,by intro w' hSw;(try dsimp only at hSw);go_simp;first|done|with_reducible rfl⟩) (by assumption) ?_
 (try simp only[psm])
 refine wpAnyH_take (i:=11) (by simp only[gel];rfl) (by kernel_rfl) (by kernel_rfl) (by kernel_rfl) (by exact fun _ _ _ h=>h) (Or.inl ⟨by rfl,by intro w' hSw;(try dsimp only at hSw);go_simp;first|done|with_reducible rfl⟩) (by assumption) ?_
 (try simp only[psm])
 refine wpAnyH_ready (rs:=[12]) (by kernel_rfl) (by simp) ?_;refine AllReadyH.cons (o:=?o12) ?hi12 (fun K hK=>?_) AllReadyH.nil
 case hi12=>simp only[gel];rfl
 rw[if_pos (by rfl)];refine wp_store_mid 59 _ _ rfl nb 2 Q.toArray rfl rfl (by simpa[HQl.out]using th6) (by simpa[HQl.out]using Y2) HOQ.out ?_;rw[List.toList_toArray];refine hK.out _ _ hS6 (fun hHeld=>?_);clear hK K;refine wpAnyH_done (by kernel_rfl) ?_ _;generalize w5.setCells nb 2 Q=W6 at *;clear th6 hS6 hHeld HOQ HQl;obtain⟨N6,F6,c6⟩:=HS6.out;have hr8':(r:Int)<8:=by omega
 have f6:=N6.c (2+(96+r)) (.bool (XM F 0 96 (fun q=>F q || Y1 e n (1+q)) (96+r))) (by rw[show 2+(96+r)=(96+r)+1+1 by omega];simp only[List.getElem?_cons_succ];rw[YK _ (by omega)]);rw[show 2+(96+r)=98+r by omega]at f6;obtain⟨f6c,f6f⟩:=f6;have e6:W6.cell? ⟨w3.heap.size,0,none⟩=some (.bool e.nul):=(c6 0 _ (YK _ (by omega))).1;have hBd:Below W6.heap.size W6 W6.drew:=(Below.refl _ _).drew;have N7:=(N6.below hBd).first hlnb (96+r) 1 (fun _=>e.nul) (by omega);obtain⟨W7,hW7⟩:=nam (W6.drew.setCell ⟨nb,98+r,none⟩ (.bool e.nul));have hsc:W6.drew.setCells nb (2+(96+r)) (bl (fun _=>e.nul) 1)=W7:=by rw[hW7,show 2+(96+r)=98+r by omega];rfl
 rw[hsc]at N7;obtain⟨N7,_,F7⟩:=N7;obtain⟨o1,o2,o3,o4⟩:=HoC.out;have F7b:=F6.trans ((NF.of vh2 vb2 (by have:=N6.c.lt;omega) hBd).trans F7);have c7:=(c6.block (hBd.block _ c6.ltB)).block (F7.k w3.heap.size (c6.block (hBd.block _ c6.ltB)).ltB (by omega) (fun x=>by have:=o1 _ x;omega) (fun x=>by have:=o2 _ x;omega));have N8:YH nb base vh2 vb2 (n+e.sz) (Va hs e n) (J8 bh e n r 0) (FR F e n r) W7:=by
  have h1:=N7.congr (hs':=Va hs e n) (bh':=J8 bh e n r 0) (fun _ _ _ _=>rfl) (fun p q _ _=>by unfold J8;simp);refine⟨?_,h1.h,h1.b,h1.ne⟩;have hF:bl (XM (XM F 0 96 (fun q=>F q || Y1 e n (1+q))) (96+r) 1 (fun _=>e.nul)) 104=bl (FR F e n r) 104:=YR (fun q hq=>by
   unfold XM FR;by_cases h2:q<96
   ·rw[if_neg (by omega),if_pos (by omega),if_pos h2];simp only[Nat.sub_zero];unfold Y1;rw[if_neg (by omega),if_pos (by omega),show 1+q-1=q by omega]
   ·by_cases h3:q=96+r
    ·rw[if_pos (by omega),if_neg h2,if_pos h3]
    ·rw[if_neg (by omega),if_neg (by omega),if_neg h2,if_neg h3])
  rw[<-hF];exact h1.c
 have HS7:=hyd3 N8 F7b c7;have HW7:=hyd hW7;clear N6 F6 c6 hBd N7 hW7 hsc F7 o1 o2 o3 o4 F7b c7 N8 HS6;go_wp2_with fail;refine wp_region_still_tail 8 (by kernel_rfl) (by kernel_rfl) ?_;simp only[List.take_succ_cons,List.take_zero,List.drop_succ_cons,List.drop_zero];change wpStill _ _ W6.drew (fun a'=>wpList _ _ _ _ a' W6.drew) _ _
 repeat still_step
 refine wpStill_nil ?_;have f7c:=f6c;have f7f:=f6f;go_wp2_with fail;have hww:(W6.setCell ⟨nb,98+r,none⟩ (.bool e.nul)).drew=W7:=by rw[HW7.out];rfl
 rw[hww];clear hww
 (try simp only[Act.put])
 clear f6c f6f e6 f7c f7f HW7
 go_loopw [7] (fun x w'=>∃p:Nat,p<=n+e.sz/\x=.int .i64 p/\YH nb base vh2 vb2 (n+e.sz) (Va hs e n) (J8 bh e n r p) (FR F e n r) w'/\NF nb vh vb vh2 vb2 w w'/\TC w3.heap.size (bl (Y1 e n) 193) w') (fun x _=>n+e.sz-(intOf x).toNat)
 case atStart=>exact⟨0,by omega,rfl,HS7.out⟩
 case round=>
  clear HS7;obtain⟨p,hp,rfl,N,FN,c⟩:=hrel;have c1:=(N.c 1 _ rfl).1;by_cases hlt:p<n+e.sz
  ·obtain⟨g,cap2,rfl⟩:=N.b.slc (by omega);obtain⟨M,hM⟩:=nam (n+e.sz);have hlt':(p:Int)<M:=by omega
   have hp96:(p:Int)<96:=by omega
   have cl:wr.cell? ⟨w3.heap.size,97+p,none⟩=some (.bool (e.lst n p)):=by
    have:=(c (97+p) _ (YK _ (by omega))).1;rw[this];unfold Y1;rw[if_neg (by omega),if_neg (by omega),show 97+p-97=p by omega]
   have hsu:∀i q,J8 bh e n r (p+1) i q=(J8 bh e n r p i q || (decide (i=p)&&decide (q=96+r)&&e.lst n p)):=fun i q=>by
    unfold J8;by_cases e1:i=p
    ·subst e1;simp
    ·by_cases e2:i<p
     ·simp[e1,e2,show i<p+1 by omega]
     ·simp[e1,e2,show ¬i<p+1 by omega]
   obtain⟨x,hx⟩:=nam (e.lst n p);rw[<-hx]at cl hsu;cases x
   ·have N2:YH nb base vh2 (.slice (some ⟨g,0,none⟩) (n+e.sz) cap2) (n+e.sz) (Va hs e n) (J8 bh e n r (p+1)) (FR F e n r) wr:=N.congr (fun _ _ _ _=>rfl) (fun i q _ _=>by rw[hsu];simp);rw[<-hM]at c1;have HM:=hyd hM;clear hsu N hM hx;go_wp2_with fail;go_roundw
    case rel=>exact⟨p+1,by omega,by go_num,N2,FN,c⟩
    case measure=>have:=HM.out;simp[intOf];omega
   ·have hput:=N.b.put p (96+r) 1 (fun _=>true) hlt (by omega);have hth:=N.b.thereAt p (96+r) 1 hlt (by omega);obtain⟨th1,th2⟩:=hth 0 (by omega);rw[Nat.add_zero]at th1 th2;obtain⟨v1,hv1⟩:=Option.isSome_iff_exists.1 th1;have hg:=Y6 g (bl (fun _=>true) 1) (p*104+(96+r)) wr;obtain⟨W8,hW8⟩:=nam (wr.setCell ⟨g,p*104+(96+r),none⟩ (.bool true));have hsc:wr.setCells g (p*104+(96+r)) (bl (fun _=>true) 1)=W8:=by rw[hW8];rfl
    rw[hsc]at hput hg;obtain⟨o1,o2,o3,o4⟩:=HoC.out;have hgb:=N.b.blk g rfl;have hg3:=o2 g rfl;have hne:=N.ne;have N2:YH nb base vh2 (.slice (some ⟨g,0,none⟩) (n+e.sz) cap2) (n+e.sz) (Va hs e n) (J8 bh e n r (p+1)) (FR F e n r) W8:=by
     refine⟨N.c.block (hg.block _ N.c.lt (fun x=>by have:=Option.some.inj x;omega)),N.h.keep (fun k hk=>hg.block k (N.h.blk k hk).2 (fun x=>by have:=Option.some.inj x;subst this;exact hne k hk rfl)),hput.congr (fun i q _ hq=>?_),hne⟩;rw[hsu];by_cases e1:i=p
     ·subst e1;simp only[if_true,decide_true,Bool.true_and,Bool.and_true];unfold XM;by_cases e2:q=96+r
      ·rw[if_pos (by omega)];simp[e2]
      ·rw[if_neg (by omega)];simp[e2]
     ·simp[e1]
    have F2:NF nb vh vb vh2 (.slice (some ⟨g,0,none⟩) (n+e.sz) cap2) w W8:=FN.trans ⟨(Below.refl _ _).grown hg (by have:=N.c.lt;omega) (fun q hq=>by cases hq;omega),fun k hk _ _ h3=>hg.block k hk (fun x=>h3 x.symm),fun _ h=>Or.inl h,fun _ h=>Or.inl h⟩;have c8:=c.block (hg.block _ c.ltB (fun x=>by have:=Option.some.inj x;omega));rw[<-hM]at c1;have HM:=hyd hM;have HW8:=hyd hW8;rw[show p*104+(96+r)=p*104+96+r by omega]at hv1 th2;clear hsu N hM hx hput hth th1 hg hsc o1 o2 o3 o4 hgb hg3 hne hW8 FN c;go_wp2_with fail
    (try simp only[Act.put])
    rw[show p*104+96+r=p*104+(96+r) by omega,<-HW8.out];go_roundw
    case rel=>exact⟨p+1,by omega,by go_num,N2,F2,c8⟩
    case measure=>have:=HM.out;simp[intOf];omega
  ·have hge:¬(p:Int)<((n+e.sz:Nat):Int):=by omega
   have hpn:p=n+e.sz:=by omega
   subst hpn;obtain⟨ad2,cap2,e1,_⟩:=N.b.at_;rw[X4]at e1;rw[e1]at c1;clear c;obtain⟨M,hM⟩:=nam (n+e.sz);have HN:=hyd N;have HF:=hyd FN;rw[<-hM]at c1 hge ⊢;clear N FN e1 hM;go_wp2_with fail;go_end0;exact⟨rfl,vh2,vb2,HN.out,HF.out⟩
variable {p u:Tmp}
theorem KV {ty:TypeId} (h:fn.results=#[.cell p ty,.tmp u]) (tmps:Array Value) (P:Program) (w:World):
  (results fn tmps).run P w=((asAddr (tmps.getD p undef)).run P w).andThen fun a w₁=>((loadVar ty a).run P w₁).andThen fun v w₂=>.ok (.tuple #[v,tmps.getD u undef]) w₂:=by
 simp only[results,h];simp[Sem.run_bind,Result.andThen]
variable {P:Program}
theorem Xm {ty:TypeId}{ad:Addr}{b:Value} (h:fn.results=#[.cell p ty,.tmp u]) (ht:tmps.getD p undef=.pointer (some ad)) (hl:(loadVar ty ad).run P w=.ok v w) (hb:tmps.getD u undef=b):
  (results fn tmps).run P w=.ok (.tuple #[v,b]) w:=by
 rw[KV h,ht];subst hb;simp[asAddr,hl]
theorem QW {e:TypeId} (h:w.ownsRow base e size v n xs) (hb:base'<=base):w.ownsRow base' e size v n xs:=
 ⟨h.1,h.2.imp id (fun⟨g,cap,cur,a,b,c⟩=>⟨g,cap,cur,a,Nat.le_trans hb b,c⟩)⟩
def PV (vh vb:Value) (F:Nat->Bool):List Value:=vh::vb::bl F 104
theorem V0 (vh vb:Value) (F:Nat->Bool):(PV vh vb F).length=106:=by simp[PV,Y7]
def XX:List Value:=PV (.slice none 0 0) (.slice none 0 0) (fun _=>false)
theorem Tz (w:World):(zeroValue 64).run Tryz.prog w=.ok (.agg XX.toArray) w:=by kernel_rfl
theorem Wx:(Tryz.prog.info? 64).map (·.size)=some 106:=by kernel_rfl
theorem SZ (h1:vh.oneCell'=true) (h2:vb.oneCell'=true) (F:Nat->Bool):(PV vh vb F).toArray.all (·.oneCell')=true:=by
 have:=YO F 104;simp only[PV];rw[List.all_toArray]at this ⊢;simp only[List.all_cons,h1,h2,this,Bool.and_self]
def XW (es:Nat->Rx):Nat->Nat->Nat->Bool
 |0=>fun _ _=>false
 |k+1=>Va (XW es k) (es k) (YV es k)
def VY (es:Nat->Rx):Nat->Nat->Nat->Bool
 |0=>fun _ _=>false
 |k+1=>J8 (VY es k) (es k) (YV es k) k (YV es (k+1))
def XQ (es:Nat->Rx):Nat->Nat->Bool
 |0=>fun _=>false
 |k+1=>FR (XQ es k) (es k) (YV es k) k
variable {ps:List Pt}
theorem Lo:∀ {rs:List Pt}{qs:List Tq},ps.map Pg.Pt.strip=rs->LZ s ps->X9 (Qs s) rs qs->X9 Sm ps qs:=by
 induction ps with
 |nil=>intro rs qs h _ hb;subst h;cases hb;exact X9.nil
 |cons p ps ih=>
  intro rs qs h hl hb;subst h;cases hb with
  |cons h t=>
   refine X9.cons ⟨h.1,h.2.1,h.2.2.1,fun h8=>?_⟩ (ih rfl (fun x hx=>hl x (by simp[hx])) t);rw[hl p (by simp) h8];exact h.2.2.2 h8
theorem Gm (v:Value) (e r a:Int) (w:World) (he:e≠0) (hC:∀W,Below w.heap.size w W->Calls Tryz.prog 37 #[v] W fun e' w'=>e'=.returned (.tuple #[.int .i64 e,.int .i64 r,.int .i64 a])/\Below W.heap.size W w'):
  Calls Tryz.prog 15 #[v] w fun en w'=>en=.returned (.tuple #[.agg XX.toArray,.int .i64 e])/\Below w.heap.size w w':=by
 have hz:=Tz;have hq:(e==0)=false:=by simpa using he
 have hq2:(e != 0)=true:=by simp[he]
 obtain⟨W1,hW1⟩:=nam ((w.alloc (.cells XX.toArray 64)).alloc (.cells XX.toArray 64));have hs1:(w.alloc (.cells XX.toArray 64)).heap.size=w.heap.size+1:=by simp
 have T1:=TC.boxed w XX 64;have T2:=TC.boxed (w.alloc (.cells XX.toArray 64)) XX 64;have x1:=box_bel w (.cells XX.toArray 64);have x2:=box_bel (w.alloc (.cells XX.toArray 64)) (.cells XX.toArray 64);rw[<-hW1]at T2 x2;rw[hs1]at T2;have B1:Below w.heap.size w W1:=x1.trans (x2.mono (by omega));have U1:TC w.heap.size XX W1:=T1.block (x2.block _ (by omega));have HC:=hyd (hC W1 B1);have HW1:=hyd hW1;have hsz:W1.heap.size=w.heap.size+2:=by rw[hW1];simp
 have Hsz:Hid (W1.heap.size=w.heap.size+2):=hsz;have HT:Hid (TC w.heap.size XX W1/\TC (w.heap.size+1) XX W1/\Below w.heap.size w W1):=⟨U1,T2,B1⟩;clear hC hW1 hs1 T1 T2 x1 x2 B1 U1 hsz he;go_enter Tryz.func15,Tryz.ntmps15;go_wp2_with fail;rw[<-HW1.out];refine HC.out.mono ?_;rintro en w2 ⟨rfl,hB2⟩;obtain⟨t1,t2,t3⟩:=HT.out;have u1:=t1.block (hB2.block _ (by have:=Hsz.out;omega));have u2:=t2.block (hB2.block _ (by have:=Hsz.out;omega));have rN:=u2.range;have tA:=u1.there;have hG:=Y6 w.heap.size XX 0 w2;have hrr:=World.rangeAt_setCells_same w2 w.heap.size 0 XX tA;have hfin:=run_loadVar_mid (P:=Tryz.prog) (w2.setCells w.heap.size 0 XX) w.heap.size 0 64 XX _ hrr u_l rfl Wx;have B3:=(t3.trans (hB2.mono (by have:=Hsz.out;omega))).grown hG (by have:=Hsz.out;have:=hB2.size;omega) (fun q hq=>by cases hq;omega);obtain⟨WX,hWX⟩:∃W,W=w2.setCells w.heap.size 0 XX:=⟨_,rfl⟩;rw[<-hWX]at hfin B3;have HWX:Hid (WX=w2.setCells w.heap.size 0 XX):=hWX;have Hfin:Hid ((loadVar 64 ⟨w.heap.size,0,none⟩).run Tryz.prog WX=.ok (.agg XX.toArray) WX):=hfin;have HOZ:Hid (XX.toArray.all (·.oneCell')=true):=SZ rfl rfl _;have HZ:Hid (XX.length=106):=V0 _ _ _;obtain⟨Z,hZ⟩:∃Z,Z=XX:=⟨_,rfl⟩;rw[<-hZ]at rN tA HWX Hfin HOZ HZ;have HZZ:Hid (Z=XX):=hZ;clear t1 t2 t3 u1 u2 hG hrr hfin hWX hB2 HT HC HW1 hZ;go_wp2_with (first|(with_reducible refine gld 64 ?_;refine wpList_load_mid rfl 64 _ rfl (w.heap.size+1) 0 rfl Z _ rN u_l rfl (by rw[HZ.out];exact Wx) ?_)|(with_reducible refine gst 64 ?_;refine wpList_store_mid rfl 64 _ _ rfl w.heap.size 0 Z.toArray rfl rfl (by simpa using tA) (by simpa[HZ.out]using Wx) HOZ.out ?_;rw[List.toList_toArray,<-HWX.out]));refine bodyPost_ret (v:=.tuple #[.agg Z.toArray,.int .i64 e]) (Xm Tryz.results15 rfl Hfin.out rfl) rfl ?_;exact⟨by rw[HZZ.out],B3⟩
def IC (es:Nat->Rx) (n:Nat) (w:World) (en:Ending) (w':World):Prop:=
 ∃vh vb,en=.returned (.tuple #[.agg (PV vh vb (XQ es n)).toArray,.int .i64 0])/\Xp w.heap.size vh (Wh (YV es n) (XW es n)) w'/\Ya w.heap.size vb (Wh (YV es n) (VY es n)) w'/\Below w.heap.size w w'
theorem FM (b off cap n:Nat) (f:Nat->ByteArray) (w:World) (h1:1<=n) (h8:n<=8) (hb:b<w.heap.size) (hm:∀i,i<n->(f i).size<=maxLen) (hr:PK b off f n w) (hok:∀j,j<n->(Pg.wrong (Y5 (f j)) (f j).size).1=0) (hsum:¬96<X8 (fun j=>Yt (f j)) n):
  Calls Tryz.prog 15 #[.slice (some ⟨b,off,none⟩) n cap] w (IC (fun j=>WY (f j)) n w):=by
 have hz:=Tz;obtain⟨es,hes⟩:∃es:Nat->Rx,es=fun j=>WY (f j):=⟨_,rfl⟩
 rw[<-hes];have hrd:∀j,j<n->(Pg.readParts (Y5 (f j)) (f j).size).ok=true:=fun j hj=>((Xn (f j)).2 (hok j hj)).2.2
 have hNs:=(RB es (fun j=>Yt (f j)) n (fun i hi=>by rw[hes];exact Ur (f i) (hrd i hi)) hsum).2;have HC:Hid (∀W,Below w.heap.size w W->Calls Tryz.prog 37 #[.slice (some ⟨b,off,none⟩) n cap] W fun e' w'=>e'=.returned (.tuple #[.int .i64 0,.int .i64 0,.int .i64 0])/\Below W.heap.size W w'):=fun W hW=>
  NN b off cap n f 0 0 0 W h1 h8 (by have:=hW.size;omega) hm (hr.below hb hW) (Or.inr ⟨hok,rfl,rfl,by rw[if_neg hsum]⟩)
 have HPa:Hid (∀i,i<n->∀W,Calls Tryz.prog 38 #[.string (f i)] W fun en w'=>∃ad cp ps,en=.returned (.tuple #[.slice ad ps.length cp,.int .i64 0,.int .i64 (Pg.wrong (Y5 (f i)) (f i).size).2])/\Below W.heap.size W w'/\PS ad ps w'/\ps.length<=100/\ps.length<=cp/\(∀g o x,ad=some ⟨g,o,x⟩->W.heap.size<=g/\g<w'.heap.size)/\(∀p∈ps,0<=p.mo/\p.mo<=9)/\∃F qs,Pp F 2 qs (es i)/\X9 Sm ps qs):=by
  intro i hi W;refine(Sl (f i) W (hm i hi)).mono ?_;rintro en w' ⟨v,ps,rfl,hW,hk⟩;obtain⟨hO,hst,hl,hle⟩:=hk (hok i hi);obtain⟨qs,F,_,_,q3,q4⟩:=Us (f i) (hrd i hi);have hmo:∀p∈ps,0<=p.mo/\p.mo<=9:=fun p hp=>by
   have:=Pg.readParts_mo (Y5 (f i)) (f i).size p.strip (by rw[<-hst];exact List.mem_map.2 ⟨p,hp,rfl⟩);exact this
  rcases hO.2 with ⟨rfl,h0⟩|⟨g,cp,cur,rfl,hg1,hg2,hg3,_⟩
  ·have hp0:=List.eq_nil_of_length_eq_zero h0;subst hp0;exact⟨none,0,[],by rw[hok i hi];rfl,hW,fun k p hp=>by simp at hp,by simp,by simp,(fun g o x h=>by cases h),hmo,F,qs,by rw[hes];exact q4,Lo hst hle q3⟩
  ·refine⟨some ⟨g,0,none⟩,cp,ps,by rw[hok i hi],hW,fun k p hp=>⟨g,0,rfl,?_⟩,hl,hg3,fun g' o x h=>?_,hmo,F,qs,by rw[hes];exact q4,Lo hst hle q3⟩
   ·have:=V6 hO k p hp;rw[Nat.zero_add];exact this
   ·cases h;refine⟨hg1,?_⟩;rcases Nat.lt_or_ge g w'.heap.size with h|h
    ·exact h
    ·rw[Array.getElem?_eq_none h]at hg2;cases hg2
 obtain⟨W1,hW1⟩:=nam ((w.alloc (.cells XX.toArray 64)).alloc (.cells XX.toArray 64));have hs1:(w.alloc (.cells XX.toArray 64)).heap.size=w.heap.size+1:=by simp
 have T1:=TC.boxed w XX 64;have T2:=TC.boxed (w.alloc (.cells XX.toArray 64)) XX 64;have x1:=box_bel w (.cells XX.toArray 64);have x2:=box_bel (w.alloc (.cells XX.toArray 64)) (.cells XX.toArray 64);rw[<-hW1]at T2 x2;rw[hs1]at T2;have B1:Below w.heap.size w W1:=x1.trans (x2.mono (by omega));have U1:TC w.heap.size XX W1:=T1.block (x2.block _ (by omega));have HC1:=hyd (HC.out W1 B1);have HW1:=hyd hW1;have hsz:W1.heap.size=w.heap.size+2:=by rw[hW1];simp
 have Hsz:=hyd hsz;have HT:=hyd3 U1 T2 B1;have Hr:=hyd hr;clear HC hW1 hs1 T1 T2 x1 x2 B1 U1 hsz hm hok hsum hrd hr hes;go_enter Tryz.func15,Tryz.ntmps15;go_wp2_with fail;rw[<-HW1.out];refine HC1.out.mono ?_;rintro en w2 ⟨rfl,hB2⟩;obtain⟨t1,t2,t3⟩:=HT.out;have u1:=t1.block (hB2.block _ (by have:=Hsz.out;omega));have u2:=t2.block (hB2.block _ (by have:=Hsz.out;omega));have B2:Below w.heap.size w w2:=t3.trans (hB2.mono (by have:=Hsz.out;omega));have hw2:w.heap.size+2<=w2.heap.size:=by have:=Hsz.out;have:=hB2.size;omega
 have N0:YH (w.heap.size+1) (w.heap.size+2) (.slice none 0 0) (.slice none 0 0) (YV es 0) (XW es 0) (VY es 0) (XQ es 0) w2:=⟨u2,Xp.nil _ _,Ya.nil _ _,fun k hk=>by cases hk⟩;have hn8:(n:Int)<=8:=by omega
 clear t1 t2 t3 u2 hB2 HT HC1 HW1;go_wp2_with fail
 go_loopw [25] (fun x w'=>∃(i:Nat) (vh vb:Value),x=.int .i64 i/\i<=n/\YH (w.heap.size+1) (w.heap.size+2) vh vb (YV es i) (XW es i) (VY es i) (XQ es i) w'/\Below w.heap.size w w'/\TC w.heap.size XX w'/\w.heap.size+2<=w'.heap.size) (fun x _=>n-(intOf x).toNat)
 case atStart=>exact⟨0,.slice none 0 0,.slice none 0 0,rfl,by omega,N0,B2,u1,hw2⟩
 case round=>
  clear N0 B2 u1 hw2;obtain⟨i,vh,vb,rfl,hi,N,B,u,hw⟩:=hrel;by_cases hlt:i<n
  ·have hlt':(i:Int)<n:=by omega
   have ci:=(Hr.out.below hb B) i hlt;have HP1:=hyd (HPa.out i hlt wr);go_wp2_with fail;refine HP1.out.mono ?_;rintro en w3 ⟨ad,cp,ps,rfl,hB3,hPS,hl,hcp,hsp,hmo,F,qs,hpp,hbt⟩;have N3:=N.below hB3;have h1b:=N.h.blk;have h2b:=N.b.blk;have hs3:=hB3.size;have hnn:YV es i+(es i).sz<=96:=by have:=X1 es (show i+1<=n from hlt);simp only[YV]at this;omega
   have HCa:Hid (Calls Tryz.prog 39 #[.pointer (some ⟨w.heap.size+1,0,none⟩),.slice ad ps.length cp,.int .i64 i] w3 fun en w'=>∃vh' vb',en=.returned (.tuple #[])/\YH (w.heap.size+1) (w.heap.size+2) vh' vb' (YV es i+(es i).sz) (Va (XW es i) (es i) (YV es i)) (J8 (VY es i) (es i) (YV es i) i (YV es i+(es i).sz)) (FR (XQ es i) (es i) (YV es i) i) w'/\NF (w.heap.size+1) vh vb vh' vb' w3 w'):=
    GR F qs (es i) ps ad cp (w.heap.size+1) (w.heap.size+2) vh vb (YV es i) (XW es i) (VY es i) (XQ es i) i w3 hpp hbt ⟨N3,by omega,by omega,hPS,hl,hcp,fun g o x h=>by
     obtain⟨g1,g2⟩:=hsp g o x h;exact⟨g2,by omega,fun e=>by have:=(h1b g e).2;omega,fun e=>by have:=(h2b g e).2;omega⟩⟩ hnn hmo (by omega)
   have B3:=B.trans (hB3.mono B.size);have u3:=u.block (hB3.block _ (by omega));clear hPS hl hcp hsp hmo hpp hbt N N3 h1b h2b ci HP1;go_wp2_with fail;refine HCa.out.mono ?_;rintro en w4 ⟨vh2,vb2,rfl,N4,F4⟩;have B4:Below w.heap.size w w4:=B3.trans (F4.b.mono (by omega));have u4:=u3.block (F4.b.block _ (by omega));have hw4:w.heap.size+2<=w4.heap.size:=by have:=F4.b.size;omega
   clear F4 B3 u3 HCa hB3;go_wp2_with fail;go_roundw
   case rel=>exact⟨i+1,vh2,vb2,by go_num,by omega,N4,B4,u4,hw4⟩
   case measure=>simp[intOf];omega
  ·have hge:¬(i:Int)<n:=by omega
   have hin:i=n:=by omega
   subst hin;have rN:=N.c.range;have tA:=u.there;obtain⟨Z,hZ⟩:=nam (PV vh vb (XQ es i));have hZl:Z.length=106:=by rw[hZ];exact V0 _ _ _
   rw[show(vh::vb::bl (XQ es i) 104)=Z from hZ.symm]at rN;have hzl:XX.length=106:=V0 _ _ _;rw[hzl]at tA;have hG:=Y6 w.heap.size Z 0 wr;have hrr:=World.rangeAt_setCells_same wr w.heap.size 0 Z (by rw[hZl];exact tA);have hfin:=run_loadVar_mid (P:=Tryz.prog) (wr.setCells w.heap.size 0 Z) w.heap.size 0 64 Z _ hrr u_l rfl (by rw[hZl];exact Wx);have BX:=B.grown hG B.size (fun q hq=>by cases hq;omega);have h1b:=N.h.blk;have h2b:=N.b.blk;have OH:=(N.h.grown hG (fun k hk e=>by have:=Option.some.inj e;have:=(h1b k hk).1;omega));have OB:=(N.b.grown hG (fun k hk e=>by have:=Option.some.inj e;have:=(h2b k hk).1;omega));have hone1:vh.oneCell'=true:=by obtain⟨a1,c1,e1,_⟩:=N.h.at_;rw[e1];rfl
   have hone2:vb.oneCell'=true:=by obtain⟨a1,c1,e1,_⟩:=N.b.at_;rw[e1];rfl
   have HOZ:Hid (Z.toArray.all (·.oneCell')=true):=by show _=true;rw[hZ];exact SZ hone1 hone2 _
   obtain⟨WX,hWX⟩:=nam (wr.setCells w.heap.size 0 Z);rw[<-hWX]at hfin BX OH OB;have HWX:=hyd hWX;have Hfin:=hyd hfin;have HZ:=hyd hZl;have HZZ:=hyd hZ;have HO:Hid (Xp w.heap.size vh (Wh (YV es i) (XW es i)) WX/\Ya w.heap.size vb (Wh (YV es i) (VY es i)) WX/\Below w.heap.size w WX):=⟨QW OH (by omega),QW OB (by omega),BX⟩;clear N B u hG hrr hfin h1b h2b OH OB hone1 hone2 hWX hZl hZ BX hzl;go_wp2_with (first|(with_reducible refine gld 64 ?_;refine wpList_load_mid rfl 64 _ rfl (w.heap.size+1) 0 rfl Z _ rN u_l rfl (by rw[HZ.out];exact Wx) ?_)|(with_reducible refine gst 64 ?_;refine wpList_store_mid rfl 64 _ _ rfl w.heap.size 0 Z.toArray rfl rfl (by simpa[HZ.out]using tA) (by simpa[HZ.out]using Wx) HOZ.out ?_;rw[List.toList_toArray,<-HWX.out]));refine bodyPost_ret (v:=.tuple #[.agg Z.toArray,.int .i64 0]) (Xm Tryz.results15 rfl Hfin.out rfl) rfl ?_;exact⟨vh,vb,by rw[HZZ.out],HO.out.1,HO.out.2.1,HO.out.2.2⟩
end Go.Proofs.YtoaaklhpmhjhkabGreat
