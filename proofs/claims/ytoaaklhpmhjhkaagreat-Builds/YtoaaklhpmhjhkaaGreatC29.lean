import Derived.Test.YtoaaklhpmhjhkaaGreatC27
import Derived.Test.YtoaaklhpmhjhkaaGreatC28
set_option maxRecDepth 100000
set_option maxHeartbeats 4000000
set_option linter.all false
namespace Go.Proofs.YtoaaklhpmhjhkaaGreat
open Go.RowKit
open Bm
def LB (la:Option Addr) (ls:List Nat) (w:World):Prop:=∀(k b:Nat),ls[k]?=some b->b<256/\∃blk off,la=some ⟨blk,off,none⟩/\w.cell? ⟨blk,off+k,none⟩=some (.int .u8 b)
variable {l : List (Nat → Bool)}{K P nb : Nat}{F : Nat → Bool}{bh hs : Nat → Nat → Bool}{ba ha : Option Addr}{vt : Value}{w w' w'' : World}
theorem LB.below {la:Option Addr}{ls:List Nat} (h:LB la ls w) (hW:Below w.heap.size w w'):LB la ls w':=λk b d=>by
 obtain⟨c,blk,off,e,a⟩:=h k b d;refine⟨c,blk,off,e,?_⟩;rw[hW.cell (p:=⟨blk,off+k,none⟩) (World.block_lt_of_cell? w _ a)];exact a
structure NR (nb:Nat) (ha:Option Addr) (hc P:Nat) (hs:Nat->Nat->Bool) (ba:Option Addr) (bc:Nat) (bh:Nat->Nat->Bool) (F:Nat->Bool) (w:World):Prop where
 c0:w.cell? ⟨nb,0,none⟩=some (.slice ha P hc)
 c1:w.cell? ⟨nb,1,none⟩=some (.slice ba P bc)
 f:w.rangeAt nb 2 (bl F 104)
 h:HS ha hs P w
 b:BH ba bh P w
theorem NR.below {hc:Nat}{bc:Nat} (h:NR nb ha hc P hs ba bc bh F w) (hW:Below w.heap.size w w'):NR nb ha hc P hs ba bc bh F w':=by
 have a:=World.block_lt_of_cell? w _ h.c0;have e:∀k,w'.cell? ⟨nb,k,none⟩=w.cell? ⟨nb,k,none⟩:=λk=>hW.cell (p:=⟨nb,k,none⟩) a
 exact⟨by rw[e];exact h.c0,by rw[e];exact h.c1,λj v c=>by rw[e];exact h.f j v c,h.h.below hW,h.b.below hW⟩
def grZ:List Value:=[.int .i64 0,.slice none 0 0,.slice none 0 0]
theorem q5e (w:World):(zeroValue 146).run Tryz.prog w=.ok (.agg #[.int .i64 0,.slice none 0 0,.slice none 0 0]) w:=by kernel_rfl
theorem q1s:(Tryz.prog.info? 146).map (·.size)=some 3:=by kernel_rfl
structure EX (K:Nat) (vs vt:Value) (l:List (Nat->Bool)) (t:List Int) (w w':World):Prop where
 g:GN (w.heap.size+1) (w.heap.size+2) K vs vt l w'
 t:OwnL (w.heap.size+2) vt t w'
 ne:∀k,vs.ownBlock=some k->vt.ownBlock≠some k
 b:Below w.heap.size w w'
 z:TC w.heap.size grZ w'
theorem EX.below {vs:Value}{t:List Int} (h:EX K vs vt l t w w') (hW:Below w'.heap.size w' w''):EX K vs vt l t w w'':=
 ⟨h.g.below hW,h.t.below hW,h.ne,h.b.trans (hW.mono h.b.size),h.z.below hW⟩
def ExPost (A:(Nat->Bool)->Nat->Nat->Bool) (F:Nat->Bool) (ls:List Nat) (w:World) (e:Ending) (w':World):Prop:=
 Below w.heap.size w w' /\
 ((∃vs vt l t,e=.returned (.tuple #[.agg #[.int .i64 ls.length,vs,vt],.int .i64 0])/\Exp A F ls l.length 0 l t/\OwnS w.heap.size vs l w'/\OwnL w.heap.size vt t w') \/
  (e=.returned (.tuple #[.agg grZ.toArray,.int .i64 8])/\∃s k l t f b,Exp A F ls s k l t/\l[s]?=some f/\ls[k]?=some b/\200<=numR l (A f b)))
theorem q8q (nb:Nat) (ha:Option Addr) (hc P:Nat) (hs:Nat->Nat->Bool) (ba:Option Addr) (bc:Nat) (bh:Nat->Nat->Bool) (F:Nat->Bool) (la:Option Addr) (lc:Nat) (ls:List Nat) (w:World) (hP:P<=96) (hls:ls.length<=256) (hN:NR nb ha hc P hs ba bc bh F w) (hL:LB la ls w):
  Calls Tryz.prog 66 #[.pointer (some ⟨nb,0,none⟩),.slice la ls.length lc] w (ExPost (λf b=>aftTo hs bh f b P) F ls w):=by
 have hz:=q5e;have bb:Hid (∀w',Below w.heap.size w w'->NR nb ha hc P hs ba bc bh F w'):=λw' h=>hN.below h
 have a9:Hid (∀w',Below w.heap.size w w'->LB la ls w'):=λw' h=>hL.below h
 have aH:=World.block_lt_of_cell? w _ hN.c0;obtain⟨A,hA⟩:∃A:(Nat->Bool)->Nat->Nat->Bool,A=λf b=>aftTo hs bh f b P:=⟨_,rfl⟩
 rw[<-hA];have a7:Hid (∀(f:Nat->Bool) (b:Nat) (W:World),b<256->Below w.heap.size w W->Calls Tryz.prog 128 #[.pointer (some ⟨nb,0,none⟩),.agg (bl f 104).toArray,.int .u8 b] W λe w'=>e=.returned (.agg (bl (A f b) 104).toArray)/\Below W.heap.size W w'):=λf b W hb hW=>by
  have h1:=hN.below hW;rw[hA];exact y1c nb ha hc P hs ba bc bh f b W hP hb h1.c0 h1.c1 h1.h h1.b
 clear hA hN hL;obtain⟨K,hK⟩:∃K,K=ls.length:=⟨_,rfl⟩;have HK:Hid (K=ls.length):=hK;rw[<-hK]at hls ⊢;obtain⟨W1,aj⟩:∃W,W=w.alloc (.cells #[.int .i64 0,.slice none 0 0,.slice none 0 0] 146):=⟨_,rfl⟩;obtain⟨B,aa⟩:∃W,W=W1.alloc (.cells #[.int .i64 (K:Int),.slice none 0 0,.slice none 0 0] 146):=⟨_,rfl⟩;have ak:W1.heap.size=w.heap.size+1:=by rw[aj];simp
 have hs2:B.heap.size=w.heap.size+2:=by rw[aa];simp[ak]
 have S0:EX K (.slice none 0 0) (.slice none 0 0) [] [] w B:=by
  have T1:TC w.heap.size grZ (w.alloc (.cells #[.int .i64 0,.slice none 0 0,.slice none 0 0] 146)):=TC.boxed w grZ 146;have T2:=TC.boxed W1 [.int .i64 (K:Int),.slice none 0 0,.slice none 0 0] 146;have x1:=box_bel w (.cells #[.int .i64 0,.slice none 0 0,.slice none 0 0] 146);have x2:=box_bel W1 (.cells #[.int .i64 (K:Int),.slice none 0 0,.slice none 0 0] 146);rw[<-aj]at T1 x1;rw[show([.int .i64 (K:Int),.slice none 0 0,.slice none 0 0]:List Value).toArray=#[.int .i64 (K:Int),.slice none 0 0,.slice none 0 0] from rfl,<-aa,ak]at T2;rw[<-aa,ak]at x2;exact⟨⟨T2,OwnS.nil _ _⟩,OwnL.nil _ _,λk hk=>(by cases hk),x1.trans (x2.mono (by omega)),T1.block (x2.block _ (by omega))⟩
 have aI:=(bb.out B S0.b).f;have aN:Hid (B=(w.alloc (.cells #[.int .i64 0,.slice none 0 0,.slice none 0 0] 146)).alloc (.cells #[.int .i64 (K:Int),.slice none 0 0,.slice none 0 0] 146)):=by show _=_;rw[aa,aj]
 have aM:Hid (EX K (.slice none 0 0) (.slice none 0 0) [] [] w B):=S0;have aP:Hid (B.heap.size=w.heap.size+2):=hs2;have g1:=(S0.g.c 1 _ rfl).1;have bE:(K:Int)<=256:=by omega
 clear aj aa ak hs2 S0 hK;go_enter Tryz.func66,Tryz.ntmps66;go_wp2_with fail;rw[<-aN.out];refine wp_region_any (by kernel_rfl) ?_;change wpAny _ _ _ _ 10 _ _ B.drew;refine wpAny_take (i:=0) (oi:=?oT0) (v:=?vT0) ?hiT0 ?hsT0 ?hfT0 ?hrT0 ?hQT0 (Or.inl ⟨?hwT0,?hyT0⟩) ?restT0
 case hiT0=>simp only[List.getElem?_toArray,List.getElem?_cons_zero];rfl
 case hsT0=>kernel_rfl
 case hfT0=>kernel_rfl
 case hrT0=>kernel_rfl
 case hQT0=>exact λ_ _ _ h=>h
 case hwT0=>rfl
 case hyT0=>intro w';go_simp;first|done|with_reducible rfl
 (try simp only[psm])
 refine wpAny_take (i:=2) (oi:=?oT2) (v:=?vT2) ?hiT2 ?hsT2 ?hfT2 ?hrT2 ?hQT2 (Or.inl ⟨?hwT2,?hyT2⟩) ?restT2
 case hiT2=>simp only[gel];rfl
 case hsT2=>kernel_rfl
 case hfT2=>kernel_rfl
 case hrT2=>kernel_rfl
 case hQT2=>exact λ_ _ _ h=>h
 case hwT2=>rfl
 case hyT2=>intro w';go_simp;first|done|with_reducible rfl
 (try simp only[psm])
 refine wpAny_take (i:=3) (oi:=?oT3) (v:=?vT3) ?hiT3 ?hsT3 ?hfT3 ?hrT3 ?hQT3 (Or.inl ⟨?hwT3,?hyT3⟩) ?restT3
 case hiT3=>simp only[gel];rfl
 case hsT3=>kernel_rfl
 case hfT3=>kernel_rfl
 case hrT3=>kernel_rfl
 case hQT3=>exact λ_ _ _ h=>h
 case hwT3=>rfl
 case hyT3=>intro w';go_simp;first|done|with_reducible rfl
 (try simp only[psm])
 refine wpAny_take (i:=4) (oi:=?oT4) (v:=?vT4) ?hiT4 ?hsT4 ?hfT4 ?hrT4 ?hQT4 (Or.inl ⟨?hwT4,?hyT4⟩) ?restT4
 case hiT4=>simp only[gel];rfl
 case hsT4=>kernel_rfl
 case hfT4=>kernel_rfl
 case hrT4=>kernel_rfl
 case hQT4=>exact λ_ _ _ h=>h
 case hwT4=>rfl
 case hyT4=>intro w';go_simp;first|done|with_reducible rfl
 (try simp only[psm])
 obtain⟨E,n⟩:∃E,E=B.drew.alloc (.cells (bl F 104).toArray 135):=⟨_,rfl⟩;have af:E.rangeAt B.drew.heap.size 0 (bl F 104):=by rw[n];exact(TC.boxed B.drew (bl F 104) 135).range
 have x3:Below B.heap.size B E:=by rw[n];exact(Below.refl B.heap.size B).drew.trans (show Below B.heap.size B.drew _ from box_bel B.drew _)
 have u:=aM.out.below x3;have q4:B.drew.cell? ⟨w.heap.size+1,1,none⟩=some (.slice none 0 0):=g1;have bv:E.cell? ⟨w.heap.size+1,1,none⟩=some (.slice none 0 0):=(u.g.c 1 _ rfl).1;refine q3d (fuel:=3) 1 5 6 (o4:=?o4) (o5:=?o5) (o6:=?o6) (v4:=.slice none 0 0) (v5:=.agg (bl F 104).toArray) (v6:=.slice (some ⟨B.drew.heap.size,0,none⟩) 1 1) (L:=#[true,true,true,true,true,true,true,false,false,false]) (A:=?A) (w':=E)
  ?h4 ?h5 ?h6 ?g4 ?g5 ?g6 ?r0 ?r1 ?r2 ?r3 ?r4 ?r5 ?x4 ?y4 ?z4 ?x5 ?y5 ?x6 ?y6 ?z6 ?l1 ?l2 ?l3 ?f1 ?f2 ?f3 ?fin
 case h4=>simp only[gel];rfl
 case h5=>simp only[gel];rfl
 case h6=>simp only[gel];rfl
 case g4=>rfl
 case g5=>rfl
 case g6=>rfl
 case r0=>kernel_rfl
 case r1=>kernel_rfl
 case r2=>kernel_rfl
 case r3=>kernel_rfl
 case r4=>kernel_rfl
 case r5=>kernel_rfl
 case x4=>go_simp
 case y4=>simp only[psm];go_simp
 case z4=>clear n;simp only[psm];go_simp
 case x5=>exact q0O 135 _ rfl nb 2 rfl (bl F 104) _ (λj v hv=>aI j v hv) Tryz.underlying135 rfl (by rw[q0c];exact q0B)
 case y5=>exact q0O 135 _ rfl nb 2 rfl (bl F 104) _ (λj v hv=>aI j v hv) Tryz.underlying135 rfl (by rw[q0c];exact q0B)
 case x6=>rw[n];exact q1H _ rfl F rfl
 case y6=>rw[n];exact q1H _ rfl F rfl
 case z6=>rw[n];exact q1H _ rfl F rfl
 case l1=>kernel_rfl
 case l2=>kernel_rfl
 case l3=>kernel_rfl
 case f1=>simp only[psm];rfl
 case f2=>simp only[psm]
 case f3=>simp only[psm]
 refine q1u 7 rfl (by kernel_rfl) ?_;simp only[List.drop_succ_cons,List.drop_zero];obtain⟨D,hD⟩:∃D,D=B.drew.heap.size:=⟨_,rfl⟩;rw[<-hD]at af ⊢;have ap:E.heap.size=w.heap.size+3:=by
  rw[n];have:=aP.out;show(B.drew.alloc _).heap.size=_;simp[this]
 have ay:Hid (E.heap.size=w.heap.size+3):=ap;have X:Hid (EX K (.slice none 0 0) (.slice none 0 0) [] [] w E):=u;have aS:=u.g.o;have ac:w.heap.size+2<=E.heap.size:=by omega
 clear g1 aI n x3 u q4 bv hD ap aN aM aP;refine q1j (by rfl) _ _ (by rfl) (w.heap.size+2) (.slice none 0 0) [] (by rfl) aS (by simp) D F (by rfl) af ac _ rfl ?_;intro gg O w5 H a aV aF;have u:=X.out;have d:=u.g.c.block (a.block _ u.g.c.lt (λe=>by cases e));obtain⟨cx,bm⟩:=d 1 _ rfl;have K5:=d.set 1 (by simp) (.slice (some ⟨gg,0,none⟩) (([]:List (Nat->Bool)).length+1) O);have aW:=(H.blk gg rfl).1;obtain⟨W6,r⟩:∃W,W=w5.setCell ⟨w.heap.size+1,1,none⟩ (.slice (some ⟨gg,0,none⟩) (([]:List (Nat->Bool)).length+1) O):=⟨_,rfl⟩;rw[<-r]at K5;have G:∀k,k≠w.heap.size+1->W6.heap[k]?=w5.heap[k]?:=λk hk=>by rw[r];exact Below.heap_setCell w5 ⟨w.heap.size+1,1,none⟩ _ k (λe=>hk e)
 have S6:EX K (.slice (some ⟨gg,0,none⟩) 1 O) (.slice none 0 0) [F] [] w W6:=by
  have hz:=ay.out;refine⟨⟨K5,H.keep (λk hk=>G k (by cases hk;show gg≠_;omega))⟩,OwnL.nil _ _,(λk _ e=>by cases e),?_,(u.z.block (a.block _ (by omega) (λe=>by cases e))).block (G _ (by omega))⟩;rw[r];exact(u.b.grown a u.b.size (λq m=>by cases m)).setCell (p:=⟨w.heap.size+1,1,none⟩) (by show w.heap.size<=w.heap.size+1;omega) _
 have ai:Hid (W6=w5.setCell ⟨w.heap.size+1,1,none⟩ (.slice (some ⟨gg,0,none⟩) 1 O)):=r;have U:w.heap.size+3<=W6.heap.size:=by have:=a.size;have:=ay.out;rw[r];simp[World.setCell];omega
 clear u d K5 aW r G H a aV aF af aS ac X ay;go_wp2_with fail;rw[<-ai.out];clear cx bm ai
 go_loopw [7] (λx w'=>∃(s:Nat) (vs vt:Value) (l:List (Nat->Bool)) (t:List Int),x=.int .i64 s/\Hid (Exp A F ls s 0 l t)/\EX K vs vt l t w w'/\w.heap.size+3<=w'.heap.size) (λx _=>201-(intOf x).toNat)
 ·exact⟨0,_,_,[F],[],rfl,Exp.first,S6,U⟩
 clear S6 U;obtain⟨s,vs,vt,l,t,rfl,V,S,al⟩:=hrel;obtain⟨e1,e2,e3,e4,e5⟩:=V.out.size;have ae:(l.length:Int)<=200:=by omega
 obtain⟨ad,cap,ev,ab⟩:=S.g.o.at_;subst ev;have c1:=(S.g.c 1 _ rfl).1;by_cases aY:s<l.length
 ·have⟨hlt',hs200⟩:(s:Int)<(l.length:Int)/\s<200:=by omega
  have aL:Hid (Exp A F ls s 0 l t):=V;have ar:=al;clear V e1 e2 e3 e4 e5 ab;go_wp2_with fail
  go_loopw [33] (λx w'=>∃(k:Nat) (vs vt:Value) (l:List (Nat->Bool)) (t:List Int),x=.int .i64 k/\k<=K/\Hid (Exp A F ls s k l t)/\s<l.length/\EX K vs vt l t w w'/\w.heap.size+3<=w'.heap.size) (λx _=>K-(intOf x).toNat)
  ·exact⟨0,_,vt,l,t,rfl,by omega,aL,aY,S,ar⟩
  clear S aL c1 ar al aY hlt' ae;obtain⟨k,vs,vt,l,t,rfl,hk,V,ah,S,al⟩:=hrel;obtain⟨e1,e2,e3,e4,e5⟩:=V.out.size;by_cases bF:k<K
  ·have bz:(k:Int)<K:=by omega
   obtain⟨f,hf⟩:∃f,l[s]?=some f:=⟨l[s],List.getElem?_eq_getElem ah⟩;obtain⟨b,aD⟩:∃b,ls[k]?=some b:=⟨ls[k]'(by have:=HK.out;omega),List.getElem?_eq_getElem _⟩;obtain⟨aC,blk,off,rfl,cb⟩:=a9.out wr S.b k b aD;obtain⟨ad,cap,ev,ab⟩:=S.g.o.at_;obtain⟨gk,bn,rf⟩:=ab s f hf;subst bn;subst ev;have c1:=(S.g.c 1 _ rfl).1;have bA:(s:Int)<(l.length:Int):=by omega
   have ae:(l.length:Int)<=200:=by omega
   have aJ:Hid (Calls Tryz.prog 128 #[.pointer (some ⟨nb,0,none⟩),.agg (bl f 104).toArray,.int .u8 b] wr λe w'=>e=.returned (.agg (bl (A f b) 104).toArray)/\Below wr.heap.size wr w'):=a7.out f b wr aC S.b;have Hf:Hid (l[s]?=some f):=hf;have aO:Hid (ls[k]?=some b):=aD;have HS:Hid (EX K (.slice (some ⟨gk,0,none⟩) l.length cap) vt l t w wr):=S;clear S hf aD ab e1 e2 e3 e4 e5;go_wp2_with (first|(with_reducible refine gld 135 ?_;refine wpList_load_mid rfl 135 _ rfl gk (s*104) rfl (bl f 104) _ rf Tryz.underlying135 rfl (by rw[q0c];exact q0B) ?_));refine aJ.out.mono ?_;rintro en w1 ⟨rfl,aA⟩;have S1:=HS.out.below aA;obtain⟨Q,hQ⟩:∃Q,Q=bl (A f b) 104:=⟨_,rfl⟩;have T1:=TC.boxed w1 (bl (λ_=>false) 104) 135;have x1:=box_bel w1 (.cells (bl (λ_=>false) 104).toArray 135);have ht:=q0I T1;have hG:=q0e w1.heap.size (bl (A f b) 104) 0 (w1.alloc (.cells (bl (λ_=>false) 104).toArray 135));have T2:TC w1.heap.size (bl (A f b) 104) ((w1.alloc (.cells (bl (λ_=>false) 104).toArray 135)).setCells w1.heap.size 0 (bl (A f b) 104)):=by
    have:=T1.setPart 0 104 (A f b) (by omega);rw[q0o (g:=A f b) (λi hi=>by unfold over;rw[if_pos (by omega)];rfl)]at this;exact this
   have x2:=x1.grown hG x1.size (λq m=>by cases m;omega);obtain⟨E,n⟩:∃W,W=(w1.alloc (.cells (bl (λ_=>false) 104).toArray 135)).setCells w1.heap.size 0 (bl (A f b) 104):=⟨_,rfl⟩;rw[<-n]at T2 x2;rw[<-hQ]at n ⊢;have u:=S1.below x2;have rQ:=T2.range;rw[<-hQ]at rQ;have bf:Hid (E=(w1.alloc (.cells (bl (λ_=>false) 104).toArray 135)).setCells w1.heap.size 0 Q):=n;have aw:Hid (Q.length=104):=by show _=_;rw[hQ];exact q0c _ _
   have bd:Hid (Q.toArray.all (·.oneCell')=true):=by show _=true;rw[hQ];exact q0w _ _
   have bt:=aA.size;have ap:=x2.size;have bB:w.heap.size+3<=E.heap.size:=by omega
   have aK:Hid (Calls Tryz.prog 129 #[.pointer (some ⟨w.heap.size+1,0,none⟩),.agg Q.toArray] E (NumPost (w.heap.size+1) (w.heap.size+2) K (.slice (some ⟨gk,0,none⟩) l.length cap) vt l (A f b) E)):=by
    rw[hQ];exact q8n (w.heap.size+1) (w.heap.size+2) K _ vt l (A f b) E u.g (by omega) (by omega) (by omega)
   have X:Hid (EX K (.slice (some ⟨gk,0,none⟩) l.length cap) vt l t w E):=u;have bu:=q2Z;clear S1 u T1 T2 x1 x2 hG n hQ aA HS aJ rf cb c1 bt ap;go_wp2_with (first|(with_reducible refine gst 135 ?_;refine wpList_store_mid rfl 135 _ _ rfl w1.heap.size 0 Q.toArray rfl rfl (by simpa[aw.out]using ht) (by simpa[aw.out]using q0B) bd.out ?_;rw[List.toList_toArray,<-bf.out])|(with_reducible refine gld 135 ?_;refine wpList_load_mid rfl 135 _ rfl w1.heap.size 0 rfl Q _ rQ Tryz.underlying135 rfl (by rw[aw.out];exact q0B) ?_));refine aK.out.mono ?_;rintro en J ⟨aq,rfl,G4,B4,br,k4,o4⟩;have u:=X.out;obtain⟨R,hR⟩:∃R,R=numR l (A f b):=⟨_,rfl⟩;have HR:Hid (R=numR l (A f b)):=hR;have aT:=q7X l (A f b);have ao:=u.t.blk;have N:EX K aq vt (numL l (A f b)) t w J:=by
    refine⟨G4,u.t.keep (λq m=>?_),λq m e=>?_,u.b.trans (B4.mono (by omega)),u.z.block (B4.block _ (by omega))⟩
    ·exact k4 q (ao q m).2 (λe=>by have:=(ao q m).1;omega) (λe=>u.ne q e m)
    rcases o4 q m with h|h
    ·exact u.ne q h e
    have:=(ao q e).2;omega
   rw[<-hR]at aT ⊢;have bC:w.heap.size+3<=J.heap.size:=by omega
   have bx:R<201:=by
    have h1:=q6h l (A f b);have h2:=q2F l (A f b);rw[<-hR]at h1;omega
   clear hR u X G4 B4 br k4 o4 ao aK rQ;by_cases Z:200<=R
   ·have az:(200:Int)<=R:=Z;have tz:=N.z.there;obtain⟨M,hM⟩:∃M,M=grZ:=⟨_,rfl⟩;have hG:=q0e w.heap.size grZ 0 J;have ag:=World.rangeAt_setCells_same J w.heap.size 0 grZ tz;have y:=run_loadVar_mid (P:=Tryz.prog) (J.setCells w.heap.size 0 grZ) w.heap.size 0 146 grZ _ ag Tryz.underlying146 rfl q1s;have BX:=N.b.grown hG N.b.size (λq m=>by cases m;omega);obtain⟨WX,I⟩:∃W,W=J.setCells w.heap.size 0 grZ:=⟨_,rfl⟩;rw[<-I]at y BX;have ax:Hid (WX=J.setCells w.heap.size 0 [.int .i64 0,.slice none 0 0,.slice none 0 0]):=I;have Y:Hid ((loadVar 146 ⟨w.heap.size,0,none⟩).run Tryz.prog WX=.ok (.agg grZ.toArray) WX):=y;have bw:J.there w.heap.size 0 3:=tz;clear hM hG ag y I N tz;go_wp2_with (first|(with_reducible refine gst 146 ?_;refine Stop.out ?_));refine⟨?_⟩;refine wpList_store_mid rfl 146 _ _ rfl w.heap.size 0 #[.int .i64 0,.slice none 0 0,.slice none 0 0] rfl rfl bw q1s (by simp[Value.oneCell']) ?_;rw[List.toList_toArray,<-ax.out];go_wp2_with fail;refine bodyPost_ret (v:=.tuple #[.agg grZ.toArray,.int .i64 8]) (q0L Tryz.results66 rfl Y.out rfl) rfl ?_;exact⟨BX,Or.inr ⟨rfl,s,k,l,t,f,b,V.out,Hf.out,aO.out,by rw[<-HR.out];exact Z⟩⟩
   have az:¬(200:Int)<=R:=Z;have c2:=(N.g.c 2 _ rfl).1;obtain⟨ta,au,et,_⟩:=N.t.il;have bj:Hid (vt=.slice ta t.length au):=et;rw[et]at c2;have hx:=box_bel J (.cells #[.int .i64 R] 3);have aB:=N.t.below hx;have aH:(J.alloc (.cells #[.int .i64 R] 3)).cell? ⟨J.heap.size,0,none⟩=some (.int .i64 R):=by rw[World.cell?_alloc_new];rfl
   have ac:w.heap.size+2<=(J.alloc (.cells #[.int .i64 R] 3)).heap.size:=by have:=hx.size;omega
   have be:Hid (EX K aq vt (numL l (A f b)) t w J):=N;have a6:t.length<=1000000:=by
    obtain⟨a1,a2,a3,a4,a5⟩:=V.out.size;have h1:s*ls.length<=200*256:=Nat.mul_le_mul (by omega) (by have:=HK.out;omega);omega
   rw[et]at aB;clear N hx et;go_wp2_with (first|(at_builtin;refine Bm.wpList_append_int (by rfl) _ _ (by rfl) (w.heap.size+2) (.slice ta t.length au) t (by rfl) aB a6 J.heap.size R (by rfl) aH ac _ rfl ?_;intro g T w5 H a aE aF;refine Stop.out ?_));refine⟨?_⟩
   (try simp only[psm])
   have N:=be.out;have x4:=box_bel J (.cells #[.int .i64 R] 3);have C:=N.below x4;have aU:=bj.out;rw[<-aU]at a aE;have am:=N.t.blk;have d:=C.g.c.block (a.block _ C.g.c.lt (λe=>by have:=(am _ e.symm).1;omega));obtain⟨cy,bD⟩:=d 2 _ rfl;have K6:=d.set 2 (by simp) (.slice (some ⟨g,0,none⟩) (t.length+1) T);obtain⟨W6,r⟩:∃W,W=w5.setCell ⟨w.heap.size+1,2,none⟩ (.slice (some ⟨g,0,none⟩) (t.length+1) T):=⟨_,rfl⟩;rw[<-r]at K6;have G:∀q,q≠w.heap.size+1->W6.heap[q]?=w5.heap[q]?:=λq m=>by rw[r];exact Below.heap_setCell w5 ⟨w.heap.size+1,2,none⟩ _ q (λe=>m e)
   have bo:=(H.blk g rfl).1;have an:=C.g.o.blk;have aG:=N.ne;have bq:=a.size;have S6:EX K aq (.slice (some ⟨g,0,none⟩) (t.length+1) T) (numL l (A f b)) (t++[R]) w W6:=by
    refine⟨⟨K6,(C.g.o.keep (λq m=>a.block q (an q m).2 (λe=>aG q m e.symm))).keep (λq m=>G q (λe=>by have:=(an q m).1;omega))⟩,H.keep (λq m=>G q (by cases m;show g≠_;omega)),λq m e=>?_,?_,(C.z.block (a.block _ (by have:=C.b.size;have:=x4.size;omega) (λe=>by have:=(am _ e.symm).1;omega))).block (G _ (by omega))⟩
    ·have e2:g=q:=Option.some.inj e;rcases aE with h|h
     ·rw[e2]at h;exact aG q m h
     have:=(an q m).2;omega
    rw[r];exact(C.b.grown a C.b.size (λq m=>by have:=(am q m).1;omega)).setCell (p:=⟨w.heap.size+1,2,none⟩) (by show w.heap.size<=w.heap.size+1;omega) _
   have av:Hid (Exp A F ls s (k+1) (numL l (A f b)) (t++[R])):=by
    have:=Exp.kind V.out Hf.out aO.out (by rw[<-HR.out];omega);rw[<-HR.out]at this;exact this
   have a0:s<(numL l (A f b)).length:=by have:=q2F l (A f b);omega
   have U:w.heap.size+3<=W6.heap.size:=by have:=x4.size;rw[r];simp[World.setCell];omega
   have ai:Hid (W6=w5.setCell ⟨w.heap.size+1,2,none⟩ (.slice (some ⟨g,0,none⟩) (t.length+1) T)):=r;clear N C x4 aU am d K6 r G bo an aG bq H a aE aF aB aH ac c2 a6;go_wp2_with fail
   (try simp only[Act.put])
   rw[<-ai.out];go_roundw
   ·exact⟨k+1,aq,_,numL l (A f b),t++[R],by go_num,by omega,av,a0,S6,U⟩
   simp[intOf];omega
  have bp:¬(k:Int)<K:=by omega
  have aX:k=ls.length:=by have:=HK.out;omega
  have av:Hid (Exp A F ls (s+1) 0 l t):=Exp.set (by have:=V.out;rw[aX]at this;exact this) ah;clear e3 aX;go_wp2_with fail;go_roundw
  ·exact⟨s+1,vs,vt,l,t,by go_num,av,S,al⟩
  simp[intOf];omega
 have⟨bp,ah⟩:¬(s:Int)<(l.length:Int)/\s=l.length:=by omega
 have a8:Hid (Exp A F ls l.length 0 l t):=by have:=V.out;rw[ah]at this;exact this
 have cG:=S.g.c;obtain⟨M,hM⟩:∃M,M=[.int .i64 (K:Int),.slice ad l.length cap,vt]:=⟨_,rfl⟩;have rM:=cG.range;have tz:wr.there w.heap.size 0 3:=S.z.there;have aZ:vt.oneCell'=true:=by obtain⟨a1,c1,e1,_⟩:=S.t.il;rw[e1];rfl
 have hG:=q0e w.heap.size [.int .i64 (K:Int),.slice ad l.length cap,vt] 0 wr;have ag:=World.rangeAt_setCells_same wr w.heap.size 0 [.int .i64 (K:Int),.slice ad l.length cap,vt] tz;have y:=run_loadVar_mid (P:=Tryz.prog) (wr.setCells w.heap.size 0 [.int .i64 (K:Int),.slice ad l.length cap,vt]) w.heap.size 0 146 [.int .i64 (K:Int),.slice ad l.length cap,vt] _ ag Tryz.underlying146 rfl q1s;have BX:=S.b.grown hG S.b.size (λq m=>by cases m;omega);have aQ:=S.g.o.blk;have aR:=S.t.blk;have OS:=S.g.o.grown hG (λq m e=>by have:=Option.some.inj e;have:=(aQ q m).1;omega);have OT:=S.t.grown hG (λq m e=>by have:=Option.some.inj e;have:=(aR q m).1;omega);obtain⟨WX,I⟩:∃W,W=wr.setCells w.heap.size 0 [.int .i64 (K:Int),.slice ad l.length cap,vt]:=⟨_,rfl⟩;rw[<-I]at y BX OS OT;have ax:Hid (WX=wr.setCells w.heap.size 0 [.int .i64 (K:Int),.slice ad l.length cap,vt]):=I;have Y:Hid ((loadVar 146 ⟨w.heap.size,0,none⟩).run Tryz.prog WX=.ok (.agg #[.int .i64 (K:Int),.slice ad l.length cap,vt]) WX):=y;have bi:Hid ((#[.int .i64 (K:Int),.slice ad l.length cap,vt]:Array Value).all (·.oneCell')=true):=by
  show([.int .i64 (K:Int),.slice ad l.length cap,vt]:List Value).toArray.all (·.oneCell')=true;rw[List.all_toArray];simp only[List.all_cons,List.all_nil,aZ];rfl
 have HO:Hid (OwnS w.heap.size (.slice ad l.length cap) l WX/\OwnL w.heap.size vt t WX/\Below w.heap.size w WX):=⟨q6f OS (by omega),OT.mono (by omega),BX⟩;clear hM hG ag y I S BX aQ aR OS OT cG V e1 e2 e3 e4 e5 ab ah;go_wp2_with (first|(with_reducible refine gld 146 ?_;refine Stop.out ?_));refine⟨?_⟩;refine wpList_load_mid rfl 146 _ rfl (w.heap.size+1) 0 rfl [.int .i64 (K:Int),.slice ad l.length cap,vt] _ rM Tryz.underlying146 rfl q1s ?_
 (try simp only[psm])
 refine wpList_store_mid rfl 146 _ _ rfl w.heap.size 0 #[.int .i64 (K:Int),.slice ad l.length cap,vt] rfl rfl tz q1s bi.out ?_;rw[List.toList_toArray,<-ax.out];go_wp2_with fail;refine bodyPost_ret (v:=.tuple #[.agg #[.int .i64 (K:Int),.slice ad l.length cap,vt],.int .i64 0]) (q0L Tryz.results66 rfl Y.out rfl) rfl ?_;obtain⟨o1,o2,o3⟩:=HO.out;exact⟨o3,Or.inl ⟨_,vt,l,t,by rw[<-HK.out],a8.out,o1,o2⟩⟩
end Go.Proofs.YtoaaklhpmhjhkaaGreat
