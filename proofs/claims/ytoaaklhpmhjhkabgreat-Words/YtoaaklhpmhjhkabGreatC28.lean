import Derived.Test.YtoaaklhpmhjhkabGreatC27
set_option maxRecDepth 100000
set_option maxHeartbeats 4000000
set_option linter.all false
namespace Go.Proofs.YtoaaklhpmhjhkabGreat
open Go.RowKit
open Bm
def LB (la:Option Addr) (ls:List Nat) (w:World):Prop:=∀(k b:Nat),ls[k]?=some b->b<256/\∃blk off,la=some ⟨blk,off,none⟩/\w.cell? ⟨blk,off+k,none⟩=some (.int .u8 b)
variable {l:List (N_)}{ls:List Nat}{K k nb:Nat}{F:N_}{bh hs:Nat->N_}{ba ha la:Option Addr}{vs vt:Value}{w w' w'':World}
theorem LB.below (h:LB la ls w) (hW:Below w.heap.size w w'):LB la ls w':=fun k b hk=>by
 obtain⟨h1,blk,off,e,hc⟩:=h k b hk;refine⟨h1,blk,off,e,?_⟩;rw[hW.cell (p:=⟨blk,off+k,none⟩) (World.block_lt_of_cell? w _ hc)];exact hc
structure NR (nb:Nat) (ha:Option Addr) (hc P:Nat) (hs:Nat->Nat->Bool) (ba:Option Addr) (bc:Nat) (bh:Nat->Nat->Bool) (F:Nat->Bool) (w:World):Prop where
 c0:w.cell? ⟨nb,0,none⟩=some (.slice ha P hc)
 c1:w.cell? ⟨nb,1,none⟩=some (.slice ba P bc)
 f:w.rangeAt nb 2 (bl F 104)
 h:HS ha hs P w
 b:BH ba bh P w
theorem NR.below {hc P:Nat}{bc:Nat} (h:NR nb ha hc P hs ba bc bh F w) (hW:Below w.heap.size w w'):NR nb ha hc P hs ba bc bh F w':=by
 have hb:=World.block_lt_of_cell? w _ h.c0;have e:∀k,w'.cell? ⟨nb,k,none⟩=w.cell? ⟨nb,k,none⟩:=fun k=>hW.cell (p:=⟨nb,k,none⟩) hb
 exact⟨by rw[e];exact h.c0,by rw[e];exact h.c1,fun j v hv=>by rw[e];exact h.f j v hv,h.h.below hW,h.b.below hW⟩
def PO:List Value:=[.int .i64 0,.slice none 0 0,.slice none 0 0]
theorem Ro (w:World):(zeroValue 74).run Tryz.prog w=.ok (.agg #[.int .i64 0,.slice none 0 0,.slice none 0 0]) w:=by kernel_rfl
theorem Xt:(Tryz.prog.info? 74).map (·.size)=some 3:=by kernel_rfl
structure EX (K:Nat) (vs vt:Value) (l:List (Nat->Bool)) (t:List Int) (w w':World):Prop where
 g:GN (w.heap.size+1) (w.heap.size+2) K vs vt l w'
 t:OwnL (w.heap.size+2) vt t w'
 ne:∀k,vs.ownBlock=some k->vt.ownBlock≠some k
 b:Below w.heap.size w w'
 z:TC w.heap.size PO w'
theorem EX.below {t:List Int} (h:EX K vs vt l t w w') (hW:Below w'.heap.size w' w''):EX K vs vt l t w w'':=
 ⟨h.g.below hW,h.t.below hW,h.ne,h.b.trans (hW.mono h.b.size),h.z.below hW⟩
def Iy (A:(Nat->Bool)->Nat->Nat->Bool) (F:Nat->Bool) (ls:List Nat) (w:World) (e:Ending) (w':World):Prop:=
 Below w.heap.size w w' /\
 ((∃vs vt l t,e=.returned (.tuple #[.agg #[.int .i64 ls.length,vs,vt],.int .i64 0])/\VP A F ls l.length 0 l t/\Ya w.heap.size vs l w'/\OwnL w.heap.size vt t w') \/
  (e=.returned (.tuple #[.agg PO.toArray,.int .i64 8])/\∃s k l t f b,VP A F ls s k l t/\l[s]?=some f/\ls[k]?=some b/\200<=WL l (A f b)))
theorem Ni (nb:Nat) (ha:Option Addr) (hc P:Nat) (hs:Nat->Nat->Bool) (ba:Option Addr) (bc:Nat) (bh:Nat->Nat->Bool) (F:Nat->Bool) (la:Option Addr) (lc:Nat) (ls:List Nat) (w:World) (hP:P<=96) (hls:ls.length<=256) (hN:NR nb ha hc P hs ba bc bh F w) (hL:LB la ls w):
  Calls Tryz.prog 17 #[.pointer (some ⟨nb,0,none⟩),.slice la ls.length lc] w (Iy (fun f b=>YI hs bh f b P) F ls w):=by
 have hz:=Ro;have HNR:Hid (∀w',Below w.heap.size w w'->NR nb ha hc P hs ba bc bh F w'):=fun w' h=>hN.below h
 have HLB:Hid (∀w',Below w.heap.size w w'->LB la ls w'):=fun w' h=>hL.below h
 have hnw:=World.block_lt_of_cell? w _ hN.c0;obtain⟨A,hA⟩:∃A:(Nat->Bool)->Nat->Nat->Bool,A=fun f b=>YI hs bh f b P:=⟨_,rfl⟩
 rw[<-hA];have HAf:Hid (∀(f:Nat->Bool) (b:Nat) (W:World),b<256->Below w.heap.size w W->Calls Tryz.prog 41 #[.pointer (some ⟨nb,0,none⟩),.agg (bl f 104).toArray,.int .u8 b] W fun e w'=>e=.returned (.agg (bl (A f b) 104).toArray)/\Below W.heap.size W w'):=fun f b W hb hW=>by
  have h1:=hN.below hW;rw[hA];exact J3 nb ha hc P hs ba bc bh f b W hP hb h1.c0 h1.c1 h1.h h1.b
 clear hA hN hL;obtain⟨K,hK⟩:∃K,K=ls.length:=⟨_,rfl⟩;have HK:Hid (K=ls.length):=hK;rw[<-hK]at hls ⊢;obtain⟨W1,hW1⟩:∃W,W=w.alloc (.cells #[.int .i64 0,.slice none 0 0,.slice none 0 0] 74):=⟨_,rfl⟩;obtain⟨W2,hW2⟩:∃W,W=W1.alloc (.cells #[.int .i64 (K:Int),.slice none 0 0,.slice none 0 0] 74):=⟨_,rfl⟩;have hs1:W1.heap.size=w.heap.size+1:=by rw[hW1];simp
 have hs2:W2.heap.size=w.heap.size+2:=by rw[hW2];simp[hs1]
 have S0:EX K (.slice none 0 0) (.slice none 0 0) [] [] w W2:=by
  have T1:TC w.heap.size PO (w.alloc (.cells #[.int .i64 0,.slice none 0 0,.slice none 0 0] 74)):=TC.boxed w PO 74;have T2:=TC.boxed W1 [.int .i64 (K:Int),.slice none 0 0,.slice none 0 0] 74;have x1:=box_bel w (.cells #[.int .i64 0,.slice none 0 0,.slice none 0 0] 74);have x2:=box_bel W1 (.cells #[.int .i64 (K:Int),.slice none 0 0,.slice none 0 0] 74);rw[<-hW1]at T1 x1;rw[show([.int .i64 (K:Int),.slice none 0 0,.slice none 0 0]:List Value).toArray=#[.int .i64 (K:Int),.slice none 0 0,.slice none 0 0] from rfl,<-hW2,hs1]at T2;rw[<-hW2,hs1]at x2;exact⟨⟨T2,Ya.nil _ _⟩,OwnL.nil _ _,fun k hk=>(by cases hk),x1.trans (x2.mono (by omega)),T1.block (x2.block _ (by omega))⟩
 have hrF:=(HNR.out W2 S0.b).f;have HW2:Hid (W2=(w.alloc (.cells #[.int .i64 0,.slice none 0 0,.slice none 0 0] 74)).alloc (.cells #[.int .i64 (K:Int),.slice none 0 0,.slice none 0 0] 74)):=by show _=_;rw[hW2,hW1]
 have HS0:Hid (EX K (.slice none 0 0) (.slice none 0 0) [] [] w W2):=S0;have Hs2:Hid (W2.heap.size=w.heap.size+2):=hs2;have g1:=(S0.g.c 1 _ rfl).1;have hKi:(K:Int)<=256:=by omega
 clear hW1 hW2 hs1 hs2 S0 hK;go_enter Tryz.func17,Tryz.ntmps17;go_wp2_with fail;rw[<-HW2.out];refine wp_region_any (by kernel_rfl) ?_;change wpAny _ _ _ _ 10 _ _ W2.drew;refine wpAny_take (i:=0) (oi:=?oT0) (v:=?vT0) ?hiT0 ?hsT0 ?hfT0 ?hrT0 ?hQT0 (Or.inl ⟨?hwT0,?hyT0⟩) ?restT0
 case hiT0=>simp only[List.getElem?_toArray,List.getElem?_cons_zero];rfl
 case hsT0=>kernel_rfl
 case hfT0=>kernel_rfl
 case hrT0=>kernel_rfl
 case hQT0=>exact fun _ _ _ h=>h
 case hwT0=>rfl
 case hyT0=>intro w';go_simp;first|done|with_reducible rfl
 (try simp only[psm])
 refine wpAny_take (i:=2) (oi:=?oT2) (v:=?vT2) ?hiT2 ?hsT2 ?hfT2 ?hrT2 ?hQT2 (Or.inl ⟨?hwT2,?hyT2⟩) ?restT2
 case hiT2=>simp only[gel];rfl
 case hsT2=>kernel_rfl
 case hfT2=>kernel_rfl
 case hrT2=>kernel_rfl
 case hQT2=>exact fun _ _ _ h=>h
 case hwT2=>rfl
 case hyT2=>intro w';go_simp;first|done|with_reducible rfl
 (try simp only[psm])
 refine wpAny_take (i:=3) (oi:=?oT3) (v:=?vT3) ?hiT3 ?hsT3 ?hfT3 ?hrT3 ?hQT3 (Or.inl ⟨?hwT3,?hyT3⟩) ?restT3
 case hiT3=>simp only[gel];rfl
 case hsT3=>kernel_rfl
 case hfT3=>kernel_rfl
 case hrT3=>kernel_rfl
 case hQT3=>exact fun _ _ _ h=>h
 case hwT3=>rfl
 case hyT3=>intro w';go_simp;first|done|with_reducible rfl
 (try simp only[psm])
 refine wpAny_take (i:=4) (oi:=?oT4) (v:=?vT4) ?hiT4 ?hsT4 ?hfT4 ?hrT4 ?hQT4 (Or.inl ⟨?hwT4,?hyT4⟩) ?restT4
 case hiT4=>simp only[gel];rfl
 case hsT4=>kernel_rfl
 case hfT4=>kernel_rfl
 case hrT4=>kernel_rfl
 case hQT4=>exact fun _ _ _ h=>h
 case hwT4=>rfl
 case hyT4=>intro w';go_simp;first|done|with_reducible rfl
 (try simp only[psm])
 obtain⟨W3,hW3⟩:∃W3,W3=W2.drew.alloc (.cells (bl F 104).toArray 62):=⟨_,rfl⟩;have hnew:W3.rangeAt W2.drew.heap.size 0 (bl F 104):=by rw[hW3];exact(TC.boxed W2.drew (bl F 104) 62).range
 have x3:Below W2.heap.size W2 W3:=by rw[hW3];exact(Below.refl W2.heap.size W2).drew.trans (show Below W2.heap.size W2.drew _ from box_bel W2.drew _)
 have S3:=HS0.out.below x3;have q4:W2.drew.cell? ⟨w.heap.size+1,1,none⟩=some (.slice none 0 0):=g1;have q4':W3.cell? ⟨w.heap.size+1,1,none⟩=some (.slice none 0 0):=(S3.g.c 1 _ rfl).1;refine Ux (fuel:=3) 1 5 6 (o4:=?o4) (o5:=?o5) (o6:=?o6) (v4:=.slice none 0 0) (v5:=.agg (bl F 104).toArray) (v6:=.slice (some ⟨W2.drew.heap.size,0,none⟩) 1 1) (L:=#[true,true,true,true,true,true,true,false,false,false]) (A:=?A) (w':=W3)
  ?h4 ?h5 ?h6 ?g4 ?g5 ?g6 ?r0 ?r1 ?r2 ?r3 ?r4 ?r5 ?x4 ?y4 ?z4 ?x5 ?y5 ?x6 ?y6 ?z6 ?l1 ?l2 ?l3 ?f1 ?f2 ?f3 ?fin
 case h4=>simp only[gel];rfl
 case h5=>simp only[gel];rfl
 case h6=>simp only[gel];rfl
 case g4=>rfl
 case g5=>rfl
 case g6=>rfl
 case r0=>kernel_rfl
 case r1=>kernel_rfl
 case r2=>kernel_rfl
 case r3=>kernel_rfl
 case r4=>kernel_rfl
 case r5=>kernel_rfl
 case x4=>go_simp
 case y4=>simp only[psm];go_simp
 case z4=>clear hW3;simp only[psm];go_simp
 case x5=>exact X7 62 _ rfl nb 2 rfl (bl F 104) _ (fun j v hv=>hrF j v hv) u_e rfl (by rw[Y7];exact YB)
 case y5=>exact X7 62 _ rfl nb 2 rfl (bl F 104) _ (fun j v hv=>hrF j v hv) u_e rfl (by rw[Y7];exact YB)
 case x6=>rw[hW3];exact WO _ rfl F rfl
 case y6=>rw[hW3];exact WO _ rfl F rfl
 case z6=>rw[hW3];exact WO _ rfl F rfl
 case l1=>kernel_rfl
 case l2=>kernel_rfl
 case l3=>kernel_rfl
 case f1=>simp only[psm];rfl
 case f2=>simp only[psm]
 case f3=>simp only[psm]
 refine Xg 7 rfl (by kernel_rfl) ?_;simp only[List.drop_succ_cons,List.drop_zero];obtain⟨D,hD⟩:∃D,D=W2.drew.heap.size:=⟨_,rfl⟩;rw[<-hD]at hnew ⊢;have hz3:W3.heap.size=w.heap.size+3:=by
  rw[hW3];have:=Hs2.out;show(W2.drew.alloc _).heap.size=_;simp[this]
 have Hz3:Hid (W3.heap.size=w.heap.size+3):=hz3;have HS3:Hid (EX K (.slice none 0 0) (.slice none 0 0) [] [] w W3):=S3;have hO3:=S3.g.o;have hbs:w.heap.size+2<=W3.heap.size:=by omega
 clear g1 hrF hW3 x3 S3 q4 q4' hD hz3 HW2 HS0 Hs2;refine Xw (by rfl) _ _ (by rfl) (w.heap.size+2) (.slice none 0 0) [] (by rfl) hO3 (by simp) D F (by rfl) hnew hbs _ rfl ?_;intro gg cap2 w5 hO5 hgrow hgb5 hl5;have S3:=HS3.out;have hcell:=S3.g.c.block (hgrow.block _ S3.g.c.lt (fun e=>by cases e));obtain⟨cx,cxf⟩:=hcell 1 _ rfl;have K5:=hcell.set 1 (by simp) (.slice (some ⟨gg,0,none⟩) (([]:List (Nat->Bool)).length+1) cap2);have hggb:=(hO5.blk gg rfl).1;obtain⟨W6,hW6⟩:∃W,W=w5.setCell ⟨w.heap.size+1,1,none⟩ (.slice (some ⟨gg,0,none⟩) (([]:List (Nat->Bool)).length+1) cap2):=⟨_,rfl⟩;rw[<-hW6]at K5;have hb6:∀k,k≠w.heap.size+1->W6.heap[k]?=w5.heap[k]?:=fun k hk=>by rw[hW6];exact Below.heap_setCell w5 ⟨w.heap.size+1,1,none⟩ _ k (fun e=>hk e)
 have S6:EX K (.slice (some ⟨gg,0,none⟩) 1 cap2) (.slice none 0 0) [F] [] w W6:=by
  have hz:=Hz3.out;refine⟨⟨K5,hO5.keep (fun k hk=>hb6 k (by cases hk;show gg≠_;omega))⟩,OwnL.nil _ _,(fun k _ e=>by cases e),?_,(S3.z.block (hgrow.block _ (by omega) (fun e=>by cases e))).block (hb6 _ (by omega))⟩;rw[hW6];exact(S3.b.grown hgrow S3.b.size (fun q hq=>by cases hq)).setCell (p:=⟨w.heap.size+1,1,none⟩) (by show w.heap.size<=w.heap.size+1;omega) _
 have HW6:Hid (W6=w5.setCell ⟨w.heap.size+1,1,none⟩ (.slice (some ⟨gg,0,none⟩) 1 cap2)):=hW6;have hsz6:w.heap.size+3<=W6.heap.size:=by have:=hgrow.size;have:=Hz3.out;rw[hW6];simp[World.setCell];omega
 clear S3 hcell K5 hggb hW6 hb6 hO5 hgrow hgb5 hl5 hnew hO3 hbs HS3 Hz3;go_wp2_with fail;rw[<-HW6.out];clear cx cxf HW6
 go_loopw [7] (fun x w'=>∃(s:Nat) (vs vt:Value) (l:List (Nat->Bool)) (t:List Int),x=.int .i64 s/\Hid (VP A F ls s 0 l t)/\EX K vs vt l t w w'/\w.heap.size+3<=w'.heap.size) (fun x _=>201-(intOf x).toNat)
 case atStart=>exact⟨0,_,_,[F],[],rfl,VP.first,S6,hsz6⟩
 case round=>
  clear S6 hsz6;obtain⟨s,vs,vt,l,t,rfl,HE,S,hsz⟩:=hrel;obtain⟨e1,e2,e3,e4,e5⟩:=HE.out.size;have hl200:(l.length:Int)<=200:=by omega
  obtain⟨ad,cap,ev,hat⟩:=S.g.o.at_;subst ev;have c1:=(S.g.c 1 _ rfl).1;by_cases hlt:s<l.length
  ·have hlt':(s:Int)<(l.length:Int):=by omega
   have hs200:s<200:=by omega
   have HE0:Hid (VP A F ls s 0 l t):=HE;have hsz0:=hsz;clear HE e1 e2 e3 e4 e5 hat;go_wp2_with fail
   go_loopw [33] (fun x w'=>∃(k:Nat) (vs vt:Value) (l:List (Nat->Bool)) (t:List Int),x=.int .i64 k/\k<=K/\Hid (VP A F ls s k l t)/\s<l.length/\EX K vs vt l t w w'/\w.heap.size+3<=w'.heap.size) (fun x _=>K-(intOf x).toNat)
   case atStart=>exact⟨0,_,vt,l,t,rfl,by omega,HE0,hlt,S,hsz0⟩
   case round=>
    clear S HE0 c1 hsz0 hsz hlt hlt' hl200;obtain⟨k,vs,vt,l,t,rfl,hk,HE,hsl,S,hsz⟩:=hrel;obtain⟨e1,e2,e3,e4,e5⟩:=HE.out.size;by_cases hkK:k<K
    ·have hkK':(k:Int)<K:=by omega
     obtain⟨f,hf⟩:∃f,l[s]?=some f:=⟨l[s],List.getElem?_eq_getElem hsl⟩;obtain⟨b,hbb⟩:∃b,ls[k]?=some b:=⟨ls[k]'(by have:=HK.out;omega),List.getElem?_eq_getElem _⟩;obtain⟨hb256,blk,off,rfl,cb⟩:=HLB.out wr S.b k b hbb;obtain⟨ad,cap,ev,hat⟩:=S.g.o.at_;obtain⟨gk,ead,rf⟩:=hat s f hf;subst ead;subst ev;have c1:=(S.g.c 1 _ rfl).1;have hsl':(s:Int)<(l.length:Int):=by omega
     have hl200:(l.length:Int)<=200:=by omega
     have HCA:Hid (Calls Tryz.prog 41 #[.pointer (some ⟨nb,0,none⟩),.agg (bl f 104).toArray,.int .u8 b] wr fun e w'=>e=.returned (.agg (bl (A f b) 104).toArray)/\Below wr.heap.size wr w'):=HAf.out f b wr hb256 S.b;have Hf:Hid (l[s]?=some f):=hf;have Hbb:Hid (ls[k]?=some b):=hbb;have HS:Hid (EX K (.slice (some ⟨gk,0,none⟩) l.length cap) vt l t w wr):=S;clear S hf hbb hat e1 e2 e3 e4 e5;go_wp2_with (first|(with_reducible refine gld 62 ?_;refine wpList_load_mid rfl 62 _ rfl gk (s*104) rfl (bl f 104) _ rf u_e rfl (by rw[Y7];exact YB) ?_));refine HCA.out.mono ?_;rintro en w1 ⟨rfl,hB1⟩;have S1:=HS.out.below hB1;obtain⟨Q,hQ⟩:∃Q,Q=bl (A f b) 104:=⟨_,rfl⟩;have T1:=TC.boxed w1 (bl (fun _=>false) 104) 62;have x1:=box_bel w1 (.cells (bl (fun _=>false) 104).toArray 62);have ht:=Yq T1;have hG:=Y6 w1.heap.size (bl (A f b) 104) 0 (w1.alloc (.cells (bl (fun _=>false) 104).toArray 62));have T2:TC w1.heap.size (bl (A f b) 104) ((w1.alloc (.cells (bl (fun _=>false) 104).toArray 62)).setCells w1.heap.size 0 (bl (A f b) 104)):=by
      have:=T1.setPart 0 104 (A f b) (by omega);rw[YR (g:=A f b) (fun i hi=>by unfold XM;rw[if_pos (by omega)];rfl)]at this;exact this
     have x2:=x1.grown hG x1.size (fun q hq=>by cases hq;omega);obtain⟨W3,hW3⟩:∃W,W=(w1.alloc (.cells (bl (fun _=>false) 104).toArray 62)).setCells w1.heap.size 0 (bl (A f b) 104):=⟨_,rfl⟩;rw[<-hW3]at T2 x2;rw[<-hQ]at hW3 ⊢;have S3:=S1.below x2;have rQ:=T2.range;rw[<-hQ]at rQ;have HW3:Hid (W3=(w1.alloc (.cells (bl (fun _=>false) 104).toArray 62)).setCells w1.heap.size 0 Q):=hW3;have HQl:Hid (Q.length=104):=by show _=_;rw[hQ];exact Y7 _ _
     have HOQ:Hid (Q.toArray.all (·.oneCell')=true):=by show _=true;rw[hQ];exact YO _ _
     have hz1:=hB1.size;have hz3:=x2.size;have hsz3:w.heap.size+3<=W3.heap.size:=by omega
     have HCN:Hid (Calls Tryz.prog 42 #[.pointer (some ⟨w.heap.size+1,0,none⟩),.agg Q.toArray] W3 (Ug (w.heap.size+1) (w.heap.size+2) K (.slice (some ⟨gk,0,none⟩) l.length cap) vt l (A f b) W3)):=by
      rw[hQ];exact Nq (w.heap.size+1) (w.heap.size+2) K _ vt l (A f b) W3 S3.g (by omega) (by omega) (by omega)
     have HS3:Hid (EX K (.slice (some ⟨gk,0,none⟩) l.length cap) vt l t w W3):=S3;have hz104:=Uz;clear S1 S3 T1 T2 x1 x2 hG hW3 hQ hB1 HS HCA rf cb c1 hz1 hz3;go_wp2_with (first|(with_reducible refine gst 62 ?_;refine wpList_store_mid rfl 62 _ _ rfl w1.heap.size 0 Q.toArray rfl rfl (by simpa[HQl.out]using ht) (by simpa[HQl.out]using YB) HOQ.out ?_;rw[List.toList_toArray,<-HW3.out])|(with_reducible refine gld 62 ?_;refine wpList_load_mid rfl 62 _ rfl w1.heap.size 0 rfl Q _ rQ u_e rfl (by rw[HQl.out];exact YB) ?_));refine HCN.out.mono ?_;rintro en w4 ⟨vs2,rfl,G4,B4,hs4,k4,o4⟩;have S3:=HS3.out;obtain⟨R,hR⟩:∃R,R=WL l (A f b):=⟨_,rfl⟩;have HR:Hid (R=WL l (A f b)):=hR;have hRge:=LF l (A f b);have hvt:=S3.t.blk;have S4:EX K vs2 vt (WW l (A f b)) t w w4:=by
      refine⟨G4,S3.t.keep (fun q hq=>?_),fun q hq e=>?_,S3.b.trans (B4.mono (by omega)),S3.z.block (B4.block _ (by omega))⟩
      ·exact k4 q (hvt q hq).2 (fun e=>by have:=(hvt q hq).1;omega) (fun e=>S3.ne q e hq)
      ·rcases o4 q hq with h|h
       ·exact S3.ne q h e
       ·have:=(hvt q e).2;omega
     rw[<-hR]at hRge ⊢;have hsz4:w.heap.size+3<=w4.heap.size:=by omega
     have hRlt:R<201:=by
      have h1:=OO l (A f b);have h2:=UM l (A f b);rw[<-hR]at h1;omega
     clear hR S3 HS3 G4 B4 hs4 k4 o4 hvt HCN rQ;by_cases h200:200<=R
     ·have h200':(200:Int)<=R:=h200;have tz:=S4.z.there;obtain⟨M,hM⟩:∃M,M=PO:=⟨_,rfl⟩;have hG:=Y6 w.heap.size PO 0 w4;have hrr:=World.rangeAt_setCells_same w4 w.heap.size 0 PO tz;have hfin:=run_loadVar_mid (P:=Tryz.prog) (w4.setCells w.heap.size 0 PO) w.heap.size 0 74 PO _ hrr u_p rfl Xt;have BX:=S4.b.grown hG S4.b.size (fun q hq=>by cases hq;omega);obtain⟨WX,hWX⟩:∃W,W=w4.setCells w.heap.size 0 PO:=⟨_,rfl⟩;rw[<-hWX]at hfin BX;have HWX:Hid (WX=w4.setCells w.heap.size 0 [.int .i64 0,.slice none 0 0,.slice none 0 0]):=hWX;have Hfin:Hid ((loadVar 74 ⟨w.heap.size,0,none⟩).run Tryz.prog WX=.ok (.agg PO.toArray) WX):=hfin;have tz3:w4.there w.heap.size 0 3:=tz;clear hM hG hrr hfin hWX S4 tz;go_wp2_with (first|(with_reducible refine gst 74 ?_;refine Wg.out ?_));refine⟨?_⟩;refine wpList_store_mid rfl 74 _ _ rfl w.heap.size 0 #[.int .i64 0,.slice none 0 0,.slice none 0 0] rfl rfl tz3 Xt (by simp[Value.oneCell']) ?_;rw[List.toList_toArray,<-HWX.out];go_wp2_with fail;refine bodyPost_ret (v:=.tuple #[.agg PO.toArray,.int .i64 8]) (Xm Tryz.results17 rfl Hfin.out rfl) rfl ?_;exact⟨BX,Or.inr ⟨rfl,s,k,l,t,f,b,HE.out,Hf.out,Hbb.out,by rw[<-HR.out];exact h200⟩⟩
     ·have h200':¬(200:Int)<=R:=h200;have c2:=(S4.g.c 2 _ rfl).1;obtain⟨ta,tcap,et,_⟩:=S4.t.il;have Het:Hid (vt=.slice ta t.length tcap):=et;rw[et]at c2;have hx:=box_bel w4 (.cells #[.int .i64 R] 3);have hO1:=S4.t.below hx;have hnw:(w4.alloc (.cells #[.int .i64 R] 3)).cell? ⟨w4.heap.size,0,none⟩=some (.int .i64 R):=by rw[World.cell?_alloc_new];rfl
      have hbs:w.heap.size+2<=(w4.alloc (.cells #[.int .i64 R] 3)).heap.size:=by have:=hx.size;omega
      have HS4:Hid (EX K vs2 vt (WW l (A f b)) t w w4):=S4;have htl:t.length<=1000000:=by
       obtain⟨a1,a2,a3,a4,a5⟩:=HE.out.size;have h1:s*ls.length<=200*256:=Nat.mul_le_mul (by omega) (by have:=HK.out;omega);omega
      rw[et]at hO1;clear S4 hx et;go_wp2_with (first|(at_builtin;refine Bm.wpList_append_int (by rfl) _ _ (by rfl) (w.heap.size+2) (.slice ta t.length tcap) t (by rfl) hO1 htl w4.heap.size R (by rfl) hnw hbs _ rfl ?_;intro g cap5 w5 hO5 hgrow hgb hl5;refine Wg.out ?_));refine⟨?_⟩
      (try simp only[psm])
      have S4:=HS4.out;have x4:=box_bel w4 (.cells #[.int .i64 R] 3);have S4a:=S4.below x4;have het:=Het.out;rw[<-het]at hgrow hgb;have hvb:=S4.t.blk;have hcell:=S4a.g.c.block (hgrow.block _ S4a.g.c.lt (fun e=>by have:=(hvb _ e.symm).1;omega));obtain⟨cy,cyf⟩:=hcell 2 _ rfl;have K6:=hcell.set 2 (by simp) (.slice (some ⟨g,0,none⟩) (t.length+1) cap5);obtain⟨W6,hW6⟩:∃W,W=w5.setCell ⟨w.heap.size+1,2,none⟩ (.slice (some ⟨g,0,none⟩) (t.length+1) cap5):=⟨_,rfl⟩;rw[<-hW6]at K6;have hb6:∀q,q≠w.heap.size+1->W6.heap[q]?=w5.heap[q]?:=fun q hq=>by rw[hW6];exact Below.heap_setCell w5 ⟨w.heap.size+1,2,none⟩ _ q (fun e=>hq e)
      have hg5:=(hO5.blk g rfl).1;have hvs:=S4a.g.o.blk;have hne:=S4.ne;have hgs:=hgrow.size;have S6:EX K vs2 (.slice (some ⟨g,0,none⟩) (t.length+1) cap5) (WW l (A f b)) (t++[R]) w W6:=by
       refine⟨⟨K6,(S4a.g.o.keep (fun q hq=>hgrow.block q (hvs q hq).2 (fun e=>hne q hq e.symm))).keep (fun q hq=>hb6 q (fun e=>by have:=(hvs q hq).1;omega))⟩,hO5.keep (fun q hq=>hb6 q (by cases hq;show g≠_;omega)),fun q hq e=>?_,?_,(S4a.z.block (hgrow.block _ (by have:=S4a.b.size;have:=x4.size;omega) (fun e=>by have:=(hvb _ e.symm).1;omega))).block (hb6 _ (by omega))⟩
       ·have e2:g=q:=Option.some.inj e;rcases hgb with h|h
        ·rw[e2]at h;exact hne q hq h
        ·have:=(hvs q hq).2;omega
       ·rw[hW6];exact(S4a.b.grown hgrow S4a.b.size (fun q hq=>by have:=(hvb q hq).1;omega)).setCell (p:=⟨w.heap.size+1,2,none⟩) (by show w.heap.size<=w.heap.size+1;omega) _
      have HE2:Hid (VP A F ls s (k+1) (WW l (A f b)) (t++[R])):=by
       have:=VP.kind HE.out Hf.out Hbb.out (by rw[<-HR.out];omega);rw[<-HR.out]at this;exact this
      have hsl2:s<(WW l (A f b)).length:=by have:=UM l (A f b);omega
      have hsz6:w.heap.size+3<=W6.heap.size:=by have:=x4.size;rw[hW6];simp[World.setCell];omega
      have HW6:Hid (W6=w5.setCell ⟨w.heap.size+1,2,none⟩ (.slice (some ⟨g,0,none⟩) (t.length+1) cap5)):=hW6;clear S4 S4a x4 het hvb hcell K6 hW6 hb6 hg5 hvs hne hgs hO5 hgrow hgb hl5 hO1 hnw hbs c2 htl;go_wp2_with fail
      (try simp only[Act.put])
      rw[<-HW6.out];go_roundw
      case rel=>exact⟨k+1,vs2,_,WW l (A f b),t++[R],by go_num,by omega,HE2,hsl2,S6,hsz6⟩
      case measure=>simp[intOf];omega
    ·have hge:¬(k:Int)<K:=by omega
     have hkk:k=ls.length:=by have:=HK.out;omega
     have HE2:Hid (VP A F ls (s+1) 0 l t):=VP.set (by have:=HE.out;rw[hkk]at this;exact this) hsl;clear e3 hkk;go_wp2_with fail;go_roundw
     case rel=>exact⟨s+1,vs,vt,l,t,by go_num,HE2,S,hsz⟩
     case measure=>simp[intOf];omega
  ·have hge:¬(s:Int)<(l.length:Int):=by omega
   have hsl:s=l.length:=by omega
   have HEl:Hid (VP A F ls l.length 0 l t):=by have:=HE.out;rw[hsl]at this;exact this
   have cG:=S.g.c;obtain⟨M,hM⟩:∃M,M=[.int .i64 (K:Int),.slice ad l.length cap,vt]:=⟨_,rfl⟩;have rM:=cG.range;have tz:wr.there w.heap.size 0 3:=S.z.there;have hone:vt.oneCell'=true:=by obtain⟨a1,c1,e1,_⟩:=S.t.il;rw[e1];rfl
   have hG:=Y6 w.heap.size [.int .i64 (K:Int),.slice ad l.length cap,vt] 0 wr;have hrr:=World.rangeAt_setCells_same wr w.heap.size 0 [.int .i64 (K:Int),.slice ad l.length cap,vt] tz;have hfin:=run_loadVar_mid (P:=Tryz.prog) (wr.setCells w.heap.size 0 [.int .i64 (K:Int),.slice ad l.length cap,vt]) w.heap.size 0 74 [.int .i64 (K:Int),.slice ad l.length cap,vt] _ hrr u_p rfl Xt;have BX:=S.b.grown hG S.b.size (fun q hq=>by cases hq;omega);have h1b:=S.g.o.blk;have h2b:=S.t.blk;have OS:=S.g.o.grown hG (fun q hq e=>by have:=Option.some.inj e;have:=(h1b q hq).1;omega);have OT:=S.t.grown hG (fun q hq e=>by have:=Option.some.inj e;have:=(h2b q hq).1;omega);obtain⟨WX,hWX⟩:∃W,W=wr.setCells w.heap.size 0 [.int .i64 (K:Int),.slice ad l.length cap,vt]:=⟨_,rfl⟩;rw[<-hWX]at hfin BX OS OT;have HWX:Hid (WX=wr.setCells w.heap.size 0 [.int .i64 (K:Int),.slice ad l.length cap,vt]):=hWX;have Hfin:Hid ((loadVar 74 ⟨w.heap.size,0,none⟩).run Tryz.prog WX=.ok (.agg #[.int .i64 (K:Int),.slice ad l.length cap,vt]) WX):=hfin;have Hal:Hid ((#[.int .i64 (K:Int),.slice ad l.length cap,vt]:Array Value).all (·.oneCell')=true):=by
    show([.int .i64 (K:Int),.slice ad l.length cap,vt]:List Value).toArray.all (·.oneCell')=true;rw[List.all_toArray];simp only[List.all_cons,List.all_nil,hone];rfl
   have HO:Hid (Ya w.heap.size (.slice ad l.length cap) l WX/\OwnL w.heap.size vt t WX/\Below w.heap.size w WX):=⟨QW OS (by omega),OT.mono (by omega),BX⟩;clear hM hG hrr hfin hWX S BX h1b h2b OS OT cG HE e1 e2 e3 e4 e5 hat hsl;go_wp2_with (first|(with_reducible refine gld 74 ?_;refine Wg.out ?_));refine⟨?_⟩;refine wpList_load_mid rfl 74 _ rfl (w.heap.size+1) 0 rfl [.int .i64 (K:Int),.slice ad l.length cap,vt] _ rM u_p rfl Xt ?_
   (try simp only[psm])
   refine wpList_store_mid rfl 74 _ _ rfl w.heap.size 0 #[.int .i64 (K:Int),.slice ad l.length cap,vt] rfl rfl tz Xt Hal.out ?_;rw[List.toList_toArray,<-HWX.out];go_wp2_with fail;refine bodyPost_ret (v:=.tuple #[.agg #[.int .i64 (K:Int),.slice ad l.length cap,vt],.int .i64 0]) (Xm Tryz.results17 rfl Hfin.out rfl) rfl ?_;obtain⟨o1,o2,o3⟩:=HO.out;exact⟨o3,Or.inl ⟨_,vt,l,t,by rw[<-HK.out],HEl.out,o1,o2⟩⟩
theorem OK (es:Nat->Rx):∀n p,p<YV es n->∃k,k<n/\YV es k<=p/\p<YV es (k+1):=by
 intro n
 induction n with
 |zero=>intro p hp;simp[YV]at hp
 |succ n ih=>
  intro p hp;rcases Nat.lt_or_ge p (YV es n)with h|h
  ·obtain⟨k,h1,h2⟩:=ih p h;exact⟨k,by omega,h2⟩
  ·exact⟨n,by omega,h,hp⟩
theorem SY (es:Nat->Rx):∀n k p b,k<n->YV es k<=p->p<YV es (k+1)->XW es n p b=(es k).has (YV es k) p b:=by
 intro n
 induction n with
 |zero=>intro k p b hk;omega
 |succ n ih=>
  intro k p b hk h1 h2;simp only[XW,Va];by_cases e:k=n
  ·subst e;rw[if_neg (by omega)]
  ·have:=X1 es (show k+1<=n by omega);rw[if_pos (by omega)];exact ih k p b (by omega) h1 h2
theorem Vd (es:Nat->Rx):∀n k p q,k<n->YV es k<=p->p<YV es (k+1)->VY es n p q=((es k).fol (YV es k) p q || (decide (q=96+k)&&(es k).lst (YV es k) p)):=by
 intro n
 induction n with
 |zero=>intro k p b hk;omega
 |succ n ih=>
  intro k p q hk h1 h2;simp only[VY,J8,UW];by_cases e:k=n
  ·subst e;rw[if_neg (by omega)];simp[h2]
  ·have hm:=X1 es (show k+1<=n by omega);rw[if_pos (by omega),ih k p q (by omega) h1 h2,Rx.lst_lt (e:=es n) (o:=YV es n) (p:=p) (Or.inl (by omega))];simp
theorem VZ (es:Nat->Rx):∀n q,q<96->(XQ es n q=true<->∃k,k<n/\(es k).fst (YV es k) q=true):=by
 intro n
 induction n with
 |zero=>intro q _;simp[XQ]
 |succ n ih=>
  intro q hq;simp only[XQ,FR,if_pos hq,Bool.or_eq_true,ih q hq];constructor
  ·rintro (⟨k,h1,h2⟩|h)
   ·exact⟨k,by omega,h2⟩
   ·exact⟨n,by omega,h⟩
  ·rintro ⟨k,h1,h2⟩;by_cases e:k=n
   ·subst e;exact Or.inr h2
   ·exact Or.inl ⟨k,by omega,h2⟩
theorem Su (es:Nat->Rx):∀n r,XQ es n (96+r)=(decide (r<n)&&(es r).nul):=by
 intro n
 induction n with
 |zero=>intro r;simp[XQ]
 |succ n ih=>
  intro r;simp only[XQ,FR];rw[if_neg (by omega)];by_cases e:r=n
  ·subst e;simp
  ·rw[if_neg (by omega),ih r];by_cases h:r<n
   ·simp[h,show r<n+1 by omega]
   ·simp[h,show ¬r<n+1 by omega]
structure Rr (P:Nat) (hs bh:Nat->Nat->Bool) (F:Nat->Bool):Prop where
 le:P<=96
 has:∀p,p<P->∃b,b<256/\hs p b=true
 rng:∀p q,p<P->q<96->bh p q=true->q<P
 rngF:∀q,q<96->F q=true->q<P
 some:∃q,q<104/\F q=true
inductive PJ (P:Nat) (bh:Nat->Nat->Bool):Nat->Prop
 |last {p r:Nat} (hp:p<P) (hr:r<8) (h:bh p (96+r)=true):PJ P bh p
 |next {p q:Nat} (hp:p<P) (hq:q<P) (h:bh p q=true) (k:PJ P bh q):PJ P bh p
theorem QS (es:Nat->Rx) (n:Nat) (h8:n<=8) (_hP:YV es n<=96):∀p,p<YV es n->PJ (YV es n) (VY es n) p:=by
 intro p hp;obtain⟨k,hk,h1,h2⟩:=OK es n p hp;have hR:=Rx.rch_any (es k) (YV es k) p h1 (by simpa[YV]using h2);have hmo:=X1 es (show k+1<=n from hk);clear h1 h2 hp
 induction hR with
 |last h=>
  have hr:=Rx.lst_rng (es k) _ _ h;refine PJ.last (r:=k) (by simp only[YV]at hmo;omega) (by omega) ?_;rw[Vd es n k _ _ hk hr.1 (by simp only[YV];omega)];simp[h]
 |next h _ ih=>
  have hr:=Rx.fol_rng (es k) _ _ _ h;refine PJ.next (by simp only[YV]at hmo;omega) (by simp only[YV]at hmo;omega) ?_ ih;rw[Vd es n k _ _ hk hr.1 (by simp only[YV];omega)];simp[h]
theorem QT (es:Nat->Rx) (n:Nat) (h1:1<=n) (h8:n<=8) (hP:YV es n<=96) (hf:∀k,k<n->(es k).Full):Rr (YV es n) (XW es n) (VY es n) (XQ es n):=by
 refine⟨hP,fun p hp=>?_,fun p q hp hq h=>?_,fun q hq h=>?_,?_⟩
 ·obtain⟨k,hk,a1,a2⟩:=OK es n p hp;obtain⟨b,b1,b2⟩:=Rx.full_has (es k) (YV es k) p (hf k hk) a1 (by simpa[YV]using a2);exact⟨b,b1,by rw[SY es n k p b hk a1 a2];exact b2⟩
 ·obtain⟨k,hk,a1,a2⟩:=OK es n p hp;rw[Vd es n k p q hk a1 a2]at h;have hmo:=X1 es (show k+1<=n from hk);simp only[Bool.or_eq_true,Bool.and_eq_true,decide_eq_true_eq]at h;rcases h with h|⟨h,_⟩
  ·have:=Rx.fol_rng (es k) _ _ _ h;simp only[YV]at hmo;omega
  ·omega
 ·obtain⟨k,hk,h2⟩:=(VZ es n q hq).1 h;have hmo:=X1 es (show k+1<=n from hk);have:=Rx.fst_rng (es k) _ _ h2;simp only[YV]at hmo;omega
 ·rcases Rx.nul_or_fst (es 0) (YV es 0)with h|⟨p,h⟩
  ·exact⟨96,by omega,by have:=Su es n 0;rw[Nat.add_zero]at this;rw[this];simp[h];omega⟩
  ·have hr:=Rx.fst_rng (es 0) _ _ h;have hmo:=X1 es (show 0+1<=n from h1);have hp:p<96:=by simp only[YV]at hmo hr;omega
   exact⟨p,by omega,(VZ es n p hp).2 ⟨0,by omega,h⟩⟩
def Xj (hs bh:Nat->Nat->Bool) (P:Nat):(Nat->Bool)->List Nat->Nat->Bool
 |f,[]=>f
 |f,b::w=>Xj hs bh P (YI hs bh f b P) w
def Rn (hs bh:Nat->Nat->Bool) (P:Nat):(Nat->Bool)->List Nat->Nat->Prop
 |f,[],q=>f q=true
 |f,b::w,q=>∃p,p<P/\f p=true/\hs p b=true/\Rn hs bh P (bh p) w q
theorem SP (hs bh:Nat->Nat->Bool) (f:Nat->Bool) (b P q:Nat):YI hs bh f b P q=true<->∃p,p<P/\f p=true/\hs p b=true/\bh p q=true:=by
 simp only[YI,List.any_eq_true,List.mem_range,Bool.and_eq_true];constructor
 ·rintro ⟨p,h1,⟨h2,h3⟩,h4⟩;exact⟨p,h1,h2,h3,h4⟩
 ·rintro ⟨p,h1,h2,h3,h4⟩;exact⟨p,h1,⟨h2,h3⟩,h4⟩
theorem JI (hs bh:Nat->Nat->Bool) (P:Nat):∀(w:List Nat) (f:Nat->Bool) (q:Nat),Xj hs bh P f w q=true<->Rn hs bh P f w q
 |[],f,q=>Iff.rfl
 |b::w,f,q=>by
  rw[Xj,JI hs bh P w];cases w with
  |nil=>exact SP hs bh f b P q
  |cons c w=>
   simp only[Rn];constructor
   ·rintro ⟨p',h1,h2,h3,h4⟩;obtain⟨p,k1,k2,k3,k4⟩:=(SP hs bh f b P p').1 h2;exact⟨p,k1,k2,k3,p',h1,k4,h3,h4⟩
   ·rintro ⟨p,k1,k2,k3,p',h1,k4,h3,h4⟩;exact⟨p',h1,(SP hs bh f b P p').2 ⟨p,k1,k2,k3,k4⟩,h3,h4⟩
theorem O6 (es:Nat->Rx) (n:Nat) (hP:YV es n<=96) {k r:Nat} (hk:k<n):∀(w:List Nat) (p:Nat),YV es k<=p->p<YV es (k+1) ->
  (Rn (XW es n) (VY es n) (YV es n) (VY es n p) w (96+r)<->r=k/\(es k).Acc (YV es k) p w)
 |[],p,h1,h2=>by
  have hm:=X1 es (show k+1<=n from hk);have hn:YV es (k+1)=YV es k+(es k).sz:=rfl;have e1:(es k).fol (YV es k) p (96+r)=false:=Rx.fol_lt (by omega);simp only[Rn,Rx.Acc];rw[Vd es n k p (96+r) hk h1 h2,e1,Bool.false_or,Bool.and_eq_true,decide_eq_true_eq];constructor
  ·rintro ⟨a,b⟩;exact⟨by omega,b⟩
  ·rintro ⟨a,b⟩;exact⟨by omega,b⟩
 |c::w,p,h1,h2=>by
  have hm:=X1 es (show k+1<=n from hk);have hn:YV es (k+1)=YV es k+(es k).sz:=rfl;simp only[Rn,Rx.Acc];constructor
  ·rintro ⟨q,hq,hb,hh,hr⟩;rw[Vd es n k p q hk h1 h2,Bool.or_eq_true,Bool.and_eq_true,decide_eq_true_eq]at hb;rcases hb with hb|⟨hb,_⟩
   ·have rg:=Rx.fol_rng _ _ _ _ hb;rw[SY es n k q c hk rg.2.2.1 (by omega)]at hh;obtain⟨e,ha⟩:=(O6 es n hP hk w q rg.2.2.1 (by omega)).1 hr;exact⟨e,q,hb,hh,ha⟩
   ·omega
  ·rintro ⟨e,q,hb,hh,ha⟩;have rg:=Rx.fol_rng _ _ _ _ hb;refine⟨q,by omega,?_,?_,(O6 es n hP hk w q rg.2.2.1 (by omega)).2 ⟨e,ha⟩⟩
   ·rw[Vd es n k p q hk h1 h2,hb,Bool.true_or]
   ·rw[SY es n k q c hk rg.2.2.1 (by omega)];exact hh
theorem NJ (es:Nat->Rx) (n:Nat) (hP:YV es n<=96) (r:Nat) (w:List Nat):Xj (XW es n) (VY es n) (YV es n) (XQ es n) w (96+r)=true<->r<n/\(es r).Lg w:=by
 rw[JI,<-Rx.mt_lg (es r) (YV es r) w];cases w with
 |nil=>simp only[Rn,Rx.Mt];rw[Su,Bool.and_eq_true,decide_eq_true_eq]
 |cons c w=>
  simp only[Rn,Rx.Mt];constructor
  ·rintro ⟨q,hq,hf,hh,hr⟩;obtain⟨k,hk,hf⟩:=(VZ es n q (by omega)).1 hf;have rg:=Rx.fst_rng _ _ _ hf;have hn:YV es (k+1)=YV es k+(es k).sz:=rfl;rw[SY es n k q c hk rg.1 (by omega)]at hh;obtain⟨rfl,ha⟩:=(O6 es n hP hk w q rg.1 (by omega)).1 hr;exact⟨hk,q,hf,hh,ha⟩
  ·rintro ⟨hk,q,hf,hh,ha⟩;have rg:=Rx.fst_rng _ _ _ hf;have hn:YV es (r+1)=YV es r+(es r).sz:=rfl;have hm:=X1 es (show r+1<=n from hk);refine⟨q,by omega,(VZ es n q (by omega)).2 ⟨r,hk,hf⟩,?_,(O6 es n hP hk w q rg.1 (by omega)).2 ⟨rfl,ha⟩⟩;rw[SY es n r q c hk rg.1 (by omega)];exact hh
def Iw (t:List Int):Nat:=t.foldl (fun m x=>if x=(m:Int) then m+1 else m) 1
theorem Nw (t:List Int) (x:Int):Iw (t++[x])=if x=(Iw t:Int) then Iw t+1 else Iw t:=by unfold Iw;rw[List.foldl_append];rfl
structure Fe (A:(Nat->Bool)->Nat->Nat->Bool) (ls:List Nat) (s k:Nat) (l:List (Nat->Bool)) (t:List Int):Prop where
 kn:Iw t=l.length
 le:∀i x,t[i]?=some x->x<=(Iw (t.take i):Int)
 row:∀s',s'<s\/(s'=s/\0<k)->s'<Iw (t.take (s'*ls.length))
 to:∀s' k',k'<ls.length->s'*ls.length+k'<t.length->∃f b x,l[s']?=some f/\ls[k']?=some b/\t[s'*ls.length+k']?=some x /\
  ((Yn (A f b) R8 104=true/\x=-1)\/∃(j:Nat) (g:Nat->Bool),x=j/\l[j]?=some g/\Yn g (A f b) 104=true)
theorem VP.fnd {A:(Nat->Bool)->Nat->Nat->Bool}{s:Nat}{t:List Int} (h:VP A F ls s k l t):Fe A ls s k l t:=by
 induction h with
 |first=>exact⟨rfl,fun i x h=>by simp at h,fun s' h=>by omega,fun s' k' _ h=>by simp at h⟩
 |@kind s k l t f b h hf hb hr ih=>
  obtain⟨e1,e2,e3,e4,e5⟩:=h.size;have hk:=(List.getElem?_eq_some_iff.1 hb).1;have hs:=(List.getElem?_eq_some_iff.1 hf).1;have hlt:=OO l (A f b);have hln:=UM l (A f b);have hkn:Iw (t++[WL l (A f b)])=(WW l (A f b)).length:=by
   rw[Nw,ih.kn];rcases hln with h1|⟨h1,h2⟩
   ·rw[if_neg (by omega),h1]
   ·rw[if_pos h2,h1]
  refine⟨hkn,fun i x hx=>?_,fun s' hs'=>?_,fun s' k' hk' hi=>?_⟩
  ·rcases Nat.lt_or_ge i t.length with hi|hi
   ·rw[List.getElem?_append_left hi]at hx;rw[List.take_append_of_le_length (by omega)];exact ih.le i x hx
   ·have hit:i=t.length:=by
     have:=(List.getElem?_eq_some_iff.1 hx).1;simp at this;omega
    subst hit;rw[List.getElem?_append_right (by omega)]at hx;simp at hx;rw[List.take_append_of_le_length (by omega),List.take_length,ih.kn,<-hx];omega
  ·by_cases h0:s'=s/\k=0
   ·obtain⟨rfl,rfl⟩:=h0;rw[List.take_append_of_le_length (by omega),show s'*ls.length=t.length by omega,List.take_length,ih.kn];exact hs
   ·have h1:s'<s\/(s'=s/\0<k):=by omega
    have h2:s'*ls.length<=t.length:=by
     have:s'*ls.length<=s*ls.length:=Nat.mul_le_mul_right _ (by omega);omega
    rw[List.take_append_of_le_length h2];exact ih.row s' h1
  ·rw[List.length_append,List.length_singleton]at hi;rcases Nat.lt_or_ge (s'*ls.length+k') t.length with h1|h1
   ·obtain⟨f',b',x,a1,a2,a3,a4⟩:=ih.to s' k' hk' h1;refine⟨f',b',x,ON a1,a2,by rw[List.getElem?_append_left h1];exact a3,?_⟩;rcases a4 with a4|⟨j,g,c1,c2,c3⟩
    ·exact Or.inl a4
    ·exact Or.inr ⟨j,g,c1,ON c2,c3⟩
   ·have hit:s'*ls.length+k'=s*ls.length+k:=by omega
    have hss:s'=s/\k'=k:=by
     have d1:=Sp (s:=s') hk';have d2:=Sp (s:=s) hk;rw[hit]at d1;exact⟨d1.1.symm.trans d2.1,d1.2.symm.trans d2.2⟩
    obtain⟨rfl,rfl⟩:=hss;refine⟨f,b,WL l (A f b),ON hf,hb,by rw[show s'*ls.length+k'=t.length by omega];simp,?_⟩;cases hn:Yn (A f b) R8 104
    ·obtain⟨j,g,c1,c2,c3⟩:=If (l:=l) hn;exact Or.inr ⟨j,g,c1,c2,c3⟩
    ·exact Or.inl ⟨rfl,by unfold WL;rw[if_pos hn]⟩
 |@set s l t h hs ih=>
  obtain⟨e1,e2,e3,e4,e5⟩:=h.size;refine⟨ih.kn,ih.le,fun s' hs'=>?_,ih.to⟩;by_cases h0:s'<s
  ·exact ih.row s' (Or.inl h0)
  ·have hss:s'=s:=by omega
   subst hss;rcases Nat.eq_zero_or_pos ls.length with hz|hz
   ·rw[hz,Nat.mul_zero,List.take_zero];have:t=[]:=List.eq_nil_of_length_eq_zero (by rw[e3,hz];simp);have hk:=ih.kn;rw[this]at hk;rw[hk];exact hs
   ·exact ih.row s' (Or.inr ⟨rfl,hz⟩)
def Yf (l:List (Nat->Bool)) (t:List Int) (K:Nat):Aut:=⟨l.length,K,fun s k=>t.getD (s*K+k) (-1),fun s=>Vf (fun r=>(l.getD s R8) (96+r)) 8 0⟩
theorem Qu (l:List (Nat->Bool)) (t:List Int) (K i:Nat) (_hK:0<K):fl (Yf l t K) i=t.getD i (-1):=by
 unfold fl Yf;simp only;rw[Nat.mul_comm,Nat.div_add_mod]
theorem Qw (l:List (Nat->Bool)) (t:List Int) (K:Nat) (hK:0<K):∀i,i<=t.length->kn (Yf l t K) i=Iw (t.take i):=by
 intro i
 induction i with
 |zero=>intro _;rfl
 |succ i ih=>
  intro hi;have hi':i<t.length:=by omega
  rw[kn,ih (by omega),Qu l t K i hK,List.take_succ,List.getElem?_eq_getElem hi'];simp only[Option.toList_some];rw[Nw,List.getD_eq_getElem?_getD,List.getElem?_eq_getElem hi'];rfl
theorem J5 {A:(Nat->Bool)->Nat->Nat->Bool}{t:List Int} (hK:0<ls.length) (h:VP A F ls l.length 0 l t):Bfs (Yf l t ls.length):=by
 obtain⟨e1,e2,e3,e4,e5⟩:=h.size;have hf:=h.fnd;have htl:t.length=l.length*ls.length:=by omega
 refine⟨e1,fun i hi=>?_,fun s hs=>?_,?_⟩
 ·have hi':i<t.length:=by rw[htl];exact hi
  rw[Qu _ _ _ _ hK,Qw _ _ _ hK i (by omega),List.getD_eq_getElem?_getD,List.getElem?_eq_getElem hi'];exact hf.le i t[i] (List.getElem?_eq_getElem hi')
 ·have hm:s*ls.length<=l.length*ls.length:=Nat.mul_le_mul_right _ (Nat.le_of_lt hs);show s<kn (Yf l t ls.length) (s*ls.length);rw[Qw _ _ _ hK _ (by omega)];exact hf.row s (Or.inl hs)
 ·show kn (Yf l t ls.length) (l.length*ls.length)=l.length;rw[Qw _ _ _ hK _ (by omega),List.take_of_length_le (by omega)];exact hf.kn
theorem Rl {f:Nat->Bool}:∀u r x,r<=x->x<r+u->f x=true->Vf f u r≠-1
 |0,r,x,h1,h2,_=>by omega
 |u+1,r,x,h1,h2,h=>by
  rw[Vf];split
  ·omega
  ·rename_i hr;have:r≠x:=fun e=>hr (by rw[e];exact h)
   exact Rl u (r+1) x (by omega) (by omega) h
def FE (hs:Nat->Nat->Bool) (P:Nat) (ls:List Nat):Prop:=∀b,b<256->∃(k c:Nat),ls[k]?=some c/\∀p,p<P->hs p c=hs p b
theorem Nh {P:Nat} (hL:Rr P hs bh F) {s k:Nat}{l:List (Nat->Bool)}{t:List Int} (h:VP (fun f b=>YI hs bh f b P) F ls s k l t):∀g∈l,(∃q,q<104/\g q=true)/\∀q,q<96->g q=true->q<P:=by
 induction h with
 |first=>intro g hg;rw[List.mem_singleton.1 hg];exact⟨hL.some,hL.rngF⟩
 |@kind s k l t f b h hf hb hr ih=>
  intro g hg;unfold WW at hg;split at hg
  ·exact ih g hg
  ·rename_i hne;split at hg
   ·exact ih g hg
   ·rcases List.mem_append.1 hg with h1|h1
    ·exact ih g h1
    ·rw[List.mem_singleton.1 h1];refine⟨?_,fun q hq hb2=>?_⟩
     ·apply Classical.byContradiction;intro hn;apply hne;rw[XV];intro q hq;cases hv:YI hs bh f b P q
      ·rfl
      ·exact absurd ⟨q,hq,hv⟩ hn
     ·simp only[YI,List.any_eq_true,List.mem_range,Bool.and_eq_true]at hb2;obtain⟨p,hp,⟨_,_⟩,h3⟩:=hb2;exact hL.rng p q hp hq h3
 |set h hs ih=>exact ih
theorem Qv {P:Nat} (hL:Rr P hs bh F) (hG:∀p,p<P->PJ P bh p) (hR:FE hs P ls) {l:List (Nat->Bool)}{t:List Int} (h:VP (fun f b=>YI hs bh f b P) F ls l.length 0 l t):(Yf l t ls.length).Good:=by
 obtain⟨e1,e2,e3,e4,e5⟩:=h.size;have hf:=h.fnd;have hbits:=Nh hL h;have hrg:=h.range;have hidx:∀s k,s<l.length->k<ls.length->s*ls.length+k<t.length:=fun s k h1 h2=>by
  have:(s+1)*ls.length<=l.length*ls.length:=Nat.mul_le_mul_right _ h1;rw[Nat.add_mul]at this;omega
 have hto:∀s k,s<l.length->k<ls.length->(Yf l t ls.length).to s k=t[s*ls.length+k]?.getD (-1):=fun s k _ _=>by simp[Yf,List.getD_eq_getElem?_getD]
 refine⟨fun s k h1 h2=>?_,fun s hs' hal=>?_⟩
 ·have hi:=hidx s k h1 h2;rw[hto s k h1 h2,List.getElem?_eq_getElem hi];exact hrg _ (List.getElem_mem hi)
 ·-- from a place an end can be come to
  have key:∀(p:Nat),PJ P bh p->∀(s:Nat) (f:Nat->Bool),l[s]?=some f->f p=true->∃w,Kd (Yf l t ls.length) w/\ext (Yf l t ls.length) s w≠-1:=by
   have step:∀(p:Nat),p<P->∀(s:Nat) (f:Nat->Bool),l[s]?=some f->f p=true->∀(q:Nat),q<104->bh p q=true->∃(k:Nat),k<ls.length/\∃(j:Nat) (g:Nat->Bool),(Yf l t ls.length).to s k=j/\l[j]?=some g/\g q=true:=by
    intro p hp s f hsf hfp q hq hpq;obtain⟨b,b1,b2⟩:=hL.has p hp;obtain⟨k,c,hk,hc⟩:=hR b b1;have hkl:=(List.getElem?_eq_some_iff.1 hk).1;have hsl:=(List.getElem?_eq_some_iff.1 hsf).1;have hi:=hidx s k hsl hkl;obtain⟨f',b',x,a1,a2,a3,a4⟩:=hf.to s k hkl hi;rw[hsf]at a1;rw[hk]at a2;cases a1;cases a2;have hbit:YI hs bh f c P q=true:=by
     simp only[YI,List.any_eq_true,List.mem_range,Bool.and_eq_true];exact⟨p,hp,⟨hfp,by rw[hc p hp];exact b2⟩,hpq⟩
    rcases a4 with ⟨a4,_⟩|⟨j,g,c1,c2,c3⟩
    ·have:=(XV _ _ _).1 a4 q hq;rw[hbit]at this;cases this
    ·refine⟨k,hkl,j,g,by rw[hto s k hsl hkl,a3];exact c1,c2,?_⟩;rw[(XV _ _ _).1 c3 q hq];exact hbit
   intro p hg
   induction hg with
   |@last p r hp hr hb=>
    intro s f hsf hfp;obtain⟨k,hk,j,g,h1,h2,h3⟩:=step p hp s f hsf hfp (96+r) (by omega) hb;refine⟨[k],(Kd.nil _).cons hk,?_⟩;rw[ext_cons,h1,ext_nil];show Vf (fun r=>(l.getD j R8) (96+r)) 8 0≠-1;exact Rl 8 0 r (by omega) (by omega) (by rw[List.getD_eq_getElem?_getD,h2];exact h3)
   |@next p q hp hq hb _ ih=>
    intro s f hsf hfp;obtain⟨k,hk,j,g,h1,h2,h3⟩:=step p hp s f hsf hfp q (by have:=hL.le;omega) hb;obtain⟨w,w1,w2⟩:=ih j g h2 h3;exact⟨k::w,w1.cons hk,by rw[ext_cons,h1];exact w2⟩
  have hsl:=hs';have hgs:=List.getElem?_eq_getElem hsl;obtain⟨⟨q,hq,hv⟩,hb⟩:=hbits l[s] (List.getElem_mem hsl);have:∃w,Kd (Yf l t ls.length) w/\ext (Yf l t ls.length) s w≠-1:=by
   rcases Nat.lt_or_ge q 96 with h1|h1
   ·exact key q (hG q (hb q h1 hv)) s l[s] hgs hv
   ·refine⟨[],Kd.nil _,?_⟩;rw[ext_nil];show Vf (fun r=>(l.getD s R8) (96+r)) 8 0≠-1;refine Rl 8 0 (q-96) (by omega) (by omega) ?_;rw[List.getD_eq_getElem?_getD,hgs,show 96+(q-96)=q by omega];exact hv
  obtain⟨w,w1,w2⟩:=this;exact w2 (by rw[hal w w1];exact ext_none _ _ (by omega))
end Go.Proofs.YtoaaklhpmhjhkabGreat
