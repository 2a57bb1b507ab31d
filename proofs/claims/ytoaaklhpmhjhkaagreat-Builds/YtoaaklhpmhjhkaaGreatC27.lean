import Derived.Test.YtoaaklhpmhjhkaaGreatC26
set_option maxRecDepth 100000
set_option maxHeartbeats 4000000
set_option linter.all false
namespace Go.Proofs.YtoaaklhpmhjhkaaGreat
open Go.RowKit
open Bm
open Pg (Pt)
def FR (F:Nat->Bool) (e:Rx) (n r:Nat):Nat->Bool:=λq=>if q<96 then F q || e.fst n q else if q=96+r then e.nul else F q
def bhR (bh:Nat->Nat->Bool) (e:Rx) (n r m:Nat):Nat->Nat->Bool:=λp q=>bhL bh e n p q || (decide (p<m)&&decide (q=96+r)&&e.lst n p)
theorem q2h (b:Nat):∀(vs:List Value) (o k:Nat) (w:World),(k<o\/o+vs.length<=k)->(w.setCells b o vs).cell? ⟨b,k,none⟩=w.cell? ⟨b,k,none⟩
 |[],_,_,_,_=>rfl
 |v::vs,o,k,w,h=>by
  simp only[List.length_cons]at h;rw[World.setCells,q2h b vs (o+1) k _ (by omega),World.cell?_setCell_other _ _ _ _ (by intro a;cases a;omega)]
variable {tmps : Array Value}{fn : Func}{xs : List Value}{base base' n nb size : Nat}{F : Nat → Bool}{bh hs : Nat → Nat → Bool}{v vb vh : Value}{w : World}
theorem NetIn.first (h:NetIn nb base vh vb n hs bh F w) (hnb:nb<base) (o m:Nat) (g:Nat->Bool) (hm:o+m<=104):
  NetIn nb base vh vb n hs bh (over F o m g) (w.setCells nb (2+o) (bl g m))/\w.there nb (2+o) m/\NF nb vh vb vh vb w (w.setCells nb (2+o) (bl g m)):=by
 have r:=q0e nb (bl g m) (2+o) w;have s:∀j,j<104->w.cell? ⟨nb,2+j,none⟩=some (.bool (F j))/\w.frozen? ⟨nb,2+j,none⟩=false:=λj t=>h.c (2+j) _ (by rw[show 2+j=j+1+1 by omega];simp only[List.getElem?_cons_succ];exact q0x F t)
 have p:w.there nb (2+o) m:=λj t=>by
  obtain⟨l,d⟩:=s (o+j) (by omega);rw[show 2+(o+j)=2+o+j by omega]at l d;exact⟨by rw[l];rfl,d⟩
 refine⟨⟨λk v a=>?_,h.h.keep (λk i=>r.block k (h.h.blk k i).2 (λe=>by have:=Option.some.inj e;have:=(h.h.blk k i).1;omega)),h.b.keep (λk i=>r.block k (h.b.blk k i).2 (λe=>by have:=Option.some.inj e;have:=(h.b.blk k i).1;omega)),h.ne⟩,p,⟨(Below.refl _ _).grown r (by have:=h.c.lt;omega) (λq x=>by cases x;omega),λk l d _ _=>r.block k l (λe=>d (Option.some.inj e)),λ_ h=>Or.inl h,λ_ h=>Or.inl h⟩⟩;rw[World.frozen?_setCells];have i:k<106:=by have:=(List.getElem?_eq_some_iff.1 a).1;simp[q0c]at this;omega
 by_cases l:2+o<=k/\k<2+o+m
 ·obtain⟨j,rfl⟩:∃j,k=2+o+j:=⟨k-(2+o),by omega⟩;have y:=World.rangeAt_setCells_same w nb (2+o) (bl g m) (by rw[q0c];exact p) j (.bool (g j)) (q0x g (by omega));have f:v=.bool (g j):=by
   rw[show 2+o+j=(o+j)+1+1 by omega]at a;simp only[List.getElem?_cons_succ]at a;rw[q0x _ (by omega)]at a;unfold over at a;rw[if_pos (by omega),show o+j-o=j by omega]at a;exact(Option.some.inj a).symm
  rw[f];refine⟨y,?_⟩;obtain⟨_,d⟩:=s (o+j) (by omega);rw[show 2+(o+j)=2+o+j by omega]at d;exact d
 have f:(vh::vb::bl F 104)[k]?=some v:=by
  rcases k with _|_|k
  ·exact a
  ·exact a
  simp only[List.getElem?_cons_succ]at a ⊢;rw[q0x _ (by omega)]at a ⊢;unfold over at a;rw[if_neg (by omega)]at a;exact a
 obtain⟨d,u⟩:=h.c k v f;refine⟨?_,u⟩;rw[q2h _ _ _ _ _ (by rw[q0c];omega)];exact d
theorem y3f (f:Nat) (qs:List Tq) (e:Rx) (ps:List Pt) (ad:Option Addr) (cap nb base:Nat) (vh vb:Value) (n:Nat) (hs bh:Nat->Nat->Bool) (F:Nat->Bool) (r:Nat) (w:World) (hp:Pp f 2 qs e) (hb:Both Sm ps qs) (hpre:LayPre nb base vh vb n hs bh F ad cap ps w) (hn:n+e.sz<=96) (hmo:∀p∈ps,0<=p.mo/\p.mo<=9) (hr8:r<8):
  Calls Tryz.prog 126 #[.pointer (some ⟨nb,0,none⟩),.slice ad ps.length cap,.int .i64 r] w λen w'=>∃vh' vb',en=.returned (.tuple #[])/\NetIn nb base vh' vb' (n+e.sz) (hsL hs e n) (bhR bh e n r (n+e.sz)) (FR F e n r) w'/\NF nb vh vb vh' vb' w w':=by
 have hz:=q1C;have aO:=hpre.net.c.lt;have P:=hpre.lnb;have aC:=hyd ((y2M f).2.2 qs e ps ad cap nb base vh vb n hs bh F w hp hb hpre hn hmo);clear hp hb hpre hmo;go_enter Tryz.func126,Tryz.ntmps126;go_wp2_with fail;refine aC.out.mono ?_;rintro en l ⟨vh2,vb2,rfl,N3,F3⟩;obtain⟨b1,b2,b3⟩:=q2v l (runOf e n);have ax:(l.alloc (.cells (bl (λ_=>false) 193).toArray 247)).there l.heap.size 0 193:=q0I (TC.boxed l _ _);obtain⟨L3,C⟩:=nam (bl (runOf e n) 193);obtain⟨I,E⟩:=nam ((l.alloc (.cells (bl (λ_=>false) 193).toArray 247)).setCells l.heap.size 0 (bl (runOf e n) 193));rw[<-E]at b1 b2 b3;rw[<-C]at E ⊢;have s:Hid (L3.length=193):=by show _=_;rw[C];exact q0c _ _
 have H:Hid (L3.toArray.all (·.oneCell')=true):=by show _=true;rw[C];exact q0w _ _
 have ak:=hyd E;have az:=F3.b.size;have aw:=N3.c.lt;have aa:(∀k,vh2.ownBlock=some k->k<l.heap.size)/\(∀k,vb2.ownBlock=some k->k<l.heap.size):=⟨λk O=>(N3.h.blk k O).2,λk O=>(N3.b.blk k O).2⟩;have U:=hyd4 aa.1 aa.2 aw az;have V:=N3.below b2;have F4:=F3.trans (NF.of vh2 vb2 (by omega) b2);have ah:=hyd3 V F4 b1;have g1:=b1.sub 1 96 (by omega);have au:I.rangeAt nb 2 (bl F 96):=λj v hv=>by
  have hj:j<96:=by have:=(List.getElem?_eq_some_iff.1 hv).1;rw[q0c]at this;exact this
  rw[q0x _ hj]at hv;exact(V.c (2+j) v (by rw[show 2+j=j+1+1 by omega];simp only[List.getElem?_cons_succ];rw[q0x _ (by omega)];exact hv)).1
 clear C E N3 F3 az aw aa V F4 b1 b2 b3;go_wp2_with (first|(with_reducible refine gst 247 ?_;refine wpList_store_mid rfl 247 _ _ rfl l.heap.size 0 L3.toArray rfl rfl (by simpa[s.out]using ax) (by simpa[s.out]using q0h) H.out ?_;rw[List.toList_toArray,<-ak.out]));have hS0:I.drew.rangeAt l.heap.size 1 (bl (λi=>runOf e n (1+i)) 96):=g1;have L:I.drew.rangeAt nb 2 (bl F 96):=au;have af:Hid (Calls Tryz.prog 174 #[.agg (bl F 96).toArray,.agg (bl (λi=>runOf e n (1+i)) 96).toArray] I.drew λen w'=>en=.returned (.agg (bl (λq=>F q || runOf e n (1+q)) 96).toArray)/\Below I.drew.heap.size I.drew w'):=q0Z _ _ _;refine wp_region_held_drew (S:=λw'=>w'.rangeAt l.heap.size 1 (bl (λi=>runOf e n (1+i)) 96)) (by kernel_rfl) hS0 (λhHeld=>?_);clear g1 au ax s H ak hS0;refine wpAnyH_take (i:=0) (oi:=?o0) (v:=?v0) ?hi0 ?hs0 ?hf0 ?hr0 ?hQ0 (Or.inl ⟨?hw0,?hy0⟩) ?hS0 ?rest0
 case hi0=>simp only[List.getElem?_toArray,List.getElem?_cons_zero];rfl
 case hs0=>kernel_rfl
 case hf0=>kernel_rfl
 case hr0=>kernel_rfl
 case hQ0=>exact λ_ _ _ h=>h
 case hS0=>assumption
 case hw0=>rfl
 case hy0=>intro w' a;(try dsimp only at a);go_simp;first|done|with_reducible rfl
 (try simp only[psm])
 refine wpAnyH_take (i:=1) (by simp only[gel];rfl) (by kernel_rfl) (by kernel_rfl) (by kernel_rfl) (by exact λ_ _ _ h=>h) (Or.inl ⟨by rfl,by intro w' a;(try dsimp only at a);go_simp;first|done|with_reducible rfl⟩) (by assumption) ?_
 (try simp only[psm])
 refine wpAnyH_take (i:=2) (by simp only[gel];rfl) (by kernel_rfl) (by kernel_rfl) (by kernel_rfl) (by exact λ_ _ _ h=>h) (Or.inl ⟨by rfl,by intro w' a;(try dsimp only at a);go_simp;first|done|with_reducible rfl⟩) (by assumption) ?_
 (try simp only[psm])
 refine wpAnyH_take (i:=3) (by simp only[gel];rfl) (by kernel_rfl) (by kernel_rfl) (by kernel_rfl) (by exact λ_ _ _ h=>h) (Or.inl ⟨by rfl,by intro w' a;(try dsimp only at a);go_simp;first|done|with_reducible rfl⟩) (by assumption) ?_
 (try simp only[psm])
 refine wpAnyH_take (i:=4) (by simp only[gel];rfl) (by kernel_rfl) (by kernel_rfl) (by kernel_rfl) (by exact λ_ _ _ h=>h) (Or.inl ⟨by rfl,by intro w' a;(try dsimp only at a);go_simp;first|done|with_reducible rfl⟩) (by assumption) ?_
 (try simp only[psm])
 refine wpAnyH_take (i:=6) (by simp only[gel];rfl) (by kernel_rfl) (by kernel_rfl) (by kernel_rfl) (by exact λ_ _ _ h=>h) (Or.inl ⟨by rfl,by intro w' a;(try dsimp only at a);go_simp;first|done|with_reducible rfl⟩) (by assumption) ?_
 (try simp only[psm])
 refine wpAnyH_take (i:=7) (oi:=?o7) (v:=.agg (bl (λi=>runOf e n (1+i)) 96).toArray) ?hi7 ?hs7 ?hf7 ?hr7 ?hQ7 (Or.inl ⟨?hw7,?hy7⟩) ?hS7 ?rest7
 case hi7=>simp only[gel];rfl
 case hs7=>kernel_rfl
 case hf7=>kernel_rfl
 case hr7=>kernel_rfl
 case hQ7=>exact λ_ _ _ h=>h
 case hS7=>assumption
 case hw7=>rfl
 case hy7=>exact λw' a=>q0O 132 _ rfl l.heap.size 1 rfl (bl (λi=>runOf e n (1+i)) 96) _ a Tryz.underlying132 rfl (by rw[q0c];exact q0g)
 (try simp only[psm])
 refine wpAnyH_ready (rs:=[5]) (by kernel_rfl) (by simp) ?_;refine AllReadyH.cons (o:=?o5) ?hi5 (λK J=>?_) AllReadyH.nil
 case hi5=>simp only[gel];rfl
 rw[if_pos (by rfl)];unfold Oper.wp;rw[q0O 132 _ rfl nb 2 rfl (bl F 96) _ L Tryz.underlying132 rfl (by rw[q0c];exact q0g)];refine J.out _ _ hHeld (λhHeld=>?_);clear J K
 (try simp only[psm])
 refine wpAnyH_ready (rs:=[8]) (by kernel_rfl) (by simp) ?_;refine AllReadyH.cons (o:=?o8) ?hi8 (λK J=>?_) AllReadyH.nil
 case hi8=>simp only[gel];rfl
 go_simp;refine Calls.mono af.out ?_;rintro en w5 ⟨rfl,ao⟩;have d:Below I.heap.size I w5:=(Below.refl _ _).drew.trans ao;obtain⟨V,F4,c4⟩:=ah.out;have N5:=V.below d;have F5:=F4.trans (NF.of vh2 vb2 (by have:=V.c.lt;omega) d);have c5:=c4.block (d.block _ c4.ltB);obtain⟨B,ac,G⟩:=N5.first P 0 96 (λq=>F q || runOf e n (1+q)) (by omega);obtain⟨o1,R,o3,o4⟩:=U.out;obtain⟨Q,hQ⟩:=nam (bl (λq=>F q || runOf e n (1+q)) 96);have ap:Q.length=96:=by rw[hQ];exact q0c _ _
 have ag:Hid (Q.toArray.all (·.oneCell')=true):=by show _=true;rw[hQ];exact q0w _ _
 have T:=hyd ap;rw[<-hQ]at B G ⊢;simp only[Nat.add_zero]at B ac G;have aJ:=c4.ltB;have z:=c5.block (G.k l.heap.size c5.ltB (by omega) (λx=>by have:=o1 _ x;omega) (λx=>by have:=R _ x;omega));have aq:w5.rangeAt l.heap.size 1 (bl (λi=>runOf e n (1+i)) 96):=c5.sub 1 96 (by omega);have ar:(w5.setCells nb 2 Q).rangeAt l.heap.size 1 (bl (λi=>runOf e n (1+i)) 96):=z.sub 1 96 (by omega);have ai:=hyd3 B (F5.trans G) z;refine J.out _ _ aq (λhHeld=>?_);clear J K ao d V F4 c4 N5 F5 c5 B G z o1 R o3 o4 hQ ap aJ ah af L aq
 (try simp only[psm])
 refine wpAnyH_take (i:=9) (by simp only[gel];rfl) (by kernel_rfl) (by kernel_rfl) (by kernel_rfl) (by exact λ_ _ _ h=>h) (Or.inl ⟨by rfl,by intro w' a;(try dsimp only at a);go_simp;first|done|with_reducible rfl⟩) (by assumption) ?_
 (try simp only[psm])
 refine wpAnyH_take (i:=10) (by simp only[gel];rfl) (by kernel_rfl) (by kernel_rfl) (by kernel_rfl) (by exact λ_ _ _ h=>h) (Or.inl ⟨by rfl,by intro w' a;(try dsimp only at a);go_simp;first|done|with_reducible rfl⟩) (by assumption) ?_
 (try simp only[psm])
 refine wpAnyH_take (i:=11) (by simp only[gel];rfl) (by kernel_rfl) (by kernel_rfl) (by kernel_rfl) (by exact λ_ _ _ h=>h) (Or.inl ⟨by rfl,by intro w' a;(try dsimp only at a);go_simp;first|done|with_reducible rfl⟩) (by assumption) ?_
 (try simp only[psm])
 refine wpAnyH_ready (rs:=[12]) (by kernel_rfl) (by simp) ?_;refine AllReadyH.cons (o:=?o12) ?hi12 (λK J=>?_) AllReadyH.nil
 case hi12=>simp only[gel];rfl
 rw[if_pos (by rfl)];refine wp_store_mid 132 _ _ rfl nb 2 Q.toArray rfl rfl (by simpa[T.out]using ac) (by simpa[T.out]using q0g) ag.out ?_;rw[List.toList_toArray];refine J.out _ _ ar (λhHeld=>?_);clear J K;refine wpAnyH_done (by kernel_rfl) ?_ _;generalize w5.setCells nb 2 Q=W6 at *;clear ac ar hHeld ag T;obtain⟨B,G,z⟩:=ai.out;have aM:(r:Int)<8:=by omega
 have f6:=B.c (2+(96+r)) (.bool (over F 0 96 (λq=>F q || runOf e n (1+q)) (96+r))) (by rw[show 2+(96+r)=(96+r)+1+1 by omega];simp only[List.getElem?_cons_succ];rw[q0x _ (by omega)]);rw[show 2+(96+r)=98+r by omega]at f6;obtain⟨am,an⟩:=f6;have e6:W6.cell? ⟨l.heap.size,0,none⟩=some (.bool e.nul):=(z 0 _ (q0x _ (by omega))).1;have d:Below W6.heap.size W6 W6.drew:=(Below.refl _ _).drew;have N7:=(B.below d).first P (96+r) 1 (λ_=>e.nul) (by omega);obtain⟨W7,W⟩:=nam (W6.drew.setCell ⟨nb,98+r,none⟩ (.bool e.nul));have u:W6.drew.setCells nb (2+(96+r)) (bl (λ_=>e.nul) 1)=W7:=by rw[W,show 2+(96+r)=98+r by omega];rfl
 rw[u]at N7;obtain⟨N7,_,F7⟩:=N7;obtain⟨o1,R,o3,o4⟩:=U.out;have ae:=G.trans ((NF.of vh2 vb2 (by have:=B.c.lt;omega) d).trans F7);have c7:=(z.block (d.block _ z.ltB)).block (F7.k l.heap.size (z.block (d.block _ z.ltB)).ltB (by omega) (λx=>by have:=o1 _ x;omega) (λx=>by have:=R _ x;omega));have N8:NetIn nb base vh2 vb2 (n+e.sz) (hsL hs e n) (bhR bh e n r 0) (FR F e n r) W7:=by
  have h1:=N7.congr (hs':=hsL hs e n) (bh':=bhR bh e n r 0) (λ_ _ _ _=>rfl) (λp q _ _=>by unfold bhR;simp);refine⟨?_,h1.h,h1.b,h1.ne⟩;have hF:bl (over (over F 0 96 (λq=>F q || runOf e n (1+q))) (96+r) 1 (λ_=>e.nul)) 104=bl (FR F e n r) 104:=q0o (λq hq=>by
   unfold over FR;by_cases h2:q<96
   ·rw[if_neg (by omega),if_pos (by omega),if_pos h2];simp only[Nat.sub_zero];unfold runOf;rw[if_neg (by omega),if_pos (by omega),show 1+q-1=q by omega]
   by_cases h3:q=96+r
   ·rw[if_pos (by omega),if_neg h2,if_pos h3]
   rw[if_neg (by omega),if_neg (by omega),if_neg h2,if_neg h3])
  rw[<-hF];exact h1.c
 have aj:=hyd3 N8 ae c7;have al:=hyd W;clear B G z d N7 W u F7 o1 R o3 o4 ae c7 N8 ai;go_wp2_with fail;refine wp_region_still_tail 8 (by kernel_rfl) (by kernel_rfl) ?_;simp only[List.take_succ_cons,List.take_zero,List.drop_succ_cons,List.drop_zero];change wpStill _ _ W6.drew (λa'=>wpList _ _ _ _ a' W6.drew) _ _
 repeat still_step
 refine wpStill_nil ?_;have aE:=am;have aF:=an;go_wp2_with fail;have aA:(W6.setCell ⟨nb,98+r,none⟩ (.bool e.nul)).drew=W7:=by rw[al.out];rfl
 rw[aA];clear aA
 (try simp only[Act.put])
 clear am an e6 aE aF al
 go_loopw [7] (λx w'=>∃p:Nat,p<=n+e.sz/\x=.int .i64 p/\NetIn nb base vh2 vb2 (n+e.sz) (hsL hs e n) (bhR bh e n r p) (FR F e n r) w'/\NF nb vh vb vh2 vb2 w w'/\TC l.heap.size (bl (runOf e n) 193) w') (λx _=>n+e.sz-(intOf x).toNat)
 ·exact⟨0,by omega,rfl,aj.out⟩
 clear aj;obtain⟨p,hp,rfl,N,FN,c⟩:=hrel;have c1:=(N.c 1 _ rfl).1;by_cases av:p<n+e.sz
 ·obtain⟨g,m,rfl⟩:=N.b.slc (by omega);obtain⟨M,D⟩:=nam (n+e.sz);have aK:(p:Int)<M:=by omega
  have aL:(p:Int)<96:=by omega
  have cl:wr.cell? ⟨l.heap.size,97+p,none⟩=some (.bool (e.lst n p)):=by
   have:=(c (97+p) _ (q0x _ (by omega))).1;rw[this];unfold runOf;rw[if_neg (by omega),if_neg (by omega),show 97+p-97=p by omega]
  have y:∀i q,bhR bh e n r (p+1) i q=(bhR bh e n r p i q || (decide (i=p)&&decide (q=96+r)&&e.lst n p)):=λi q=>by
   unfold bhR;by_cases A:i=p
   ·subst A;simp
   by_cases e2:i<p
   ·simp[A,e2,show i<p+1 by omega]
   simp[A,e2,show ¬i<p+1 by omega]
  obtain⟨x,hx⟩:=nam (e.lst n p);rw[<-hx]at cl y;cases x
  ·have N2:NetIn nb base vh2 (.slice (some ⟨g,0,none⟩) (n+e.sz) m) (n+e.sz) (hsL hs e n) (bhR bh e n r (p+1)) (FR F e n r) wr:=N.congr (λ_ _ _ _=>rfl) (λi q _ _=>by rw[y];simp);rw[<-D]at c1;have HM:=hyd D;clear y N D hx;go_wp2_with fail;go_roundw
   ·exact⟨p+1,by omega,by go_num,N2,FN,c⟩
   have:=HM.out;simp[intOf];omega
  have t:=N.b.put p (96+r) 1 (λ_=>true) av (by omega);have ay:=N.b.thereAt p (96+r) 1 av (by omega);obtain⟨ab,aB⟩:=ay 0 (by omega);rw[Nat.add_zero]at ab aB;obtain⟨v1,aI⟩:=Option.isSome_iff_exists.1 ab;have Y:=q0e g (bl (λ_=>true) 1) (p*104+(96+r)) wr;obtain⟨W8,X⟩:=nam (wr.setCell ⟨g,p*104+(96+r),none⟩ (.bool true));have u:wr.setCells g (p*104+(96+r)) (bl (λ_=>true) 1)=W8:=by rw[X];rfl
  rw[u]at t Y;obtain⟨o1,R,o3,o4⟩:=U.out;have aH:=N.b.blk g rfl;have aG:=R g rfl;have Z:=N.ne;have N2:NetIn nb base vh2 (.slice (some ⟨g,0,none⟩) (n+e.sz) m) (n+e.sz) (hsL hs e n) (bhR bh e n r (p+1)) (FR F e n r) W8:=by
   refine⟨N.c.block (Y.block _ N.c.lt (λx=>by have:=Option.some.inj x;omega)),N.h.keep (λk O=>Y.block k (N.h.blk k O).2 (λx=>by have:=Option.some.inj x;subst this;exact Z k O rfl)),t.congr (λi q _ hq=>?_),Z⟩;rw[y];by_cases A:i=p
   ·subst A;simp only[if_true,decide_true,Bool.true_and,Bool.and_true];unfold over;by_cases e2:q=96+r
    ·rw[if_pos (by omega)];simp[e2]
    rw[if_neg (by omega)];simp[e2]
   simp[A]
  have F2:NF nb vh vb vh2 (.slice (some ⟨g,0,none⟩) (n+e.sz) m) w W8:=FN.trans ⟨(Below.refl _ _).grown Y (by have:=N.c.lt;omega) (λq hq=>by cases hq;omega),λk O _ _ h3=>Y.block k O (λx=>h3 x.symm),λ_ h=>Or.inl h,λ_ h=>Or.inl h⟩;have c8:=c.block (Y.block _ c.ltB (λx=>by have:=Option.some.inj x;omega));rw[<-D]at c1;have HM:=hyd D;have aD:=hyd X;rw[show p*104+(96+r)=p*104+96+r by omega]at aI aB;clear y N D hx t ay ab Y u o1 R o3 o4 aH aG Z X FN c;go_wp2_with fail
  (try simp only[Act.put])
  rw[show p*104+96+r=p*104+(96+r) by omega,<-aD.out];go_roundw
  ·exact⟨p+1,by omega,by go_num,N2,F2,c8⟩
  have:=HM.out;simp[intOf];omega
 have⟨hge,hpn⟩:¬(p:Int)<((n+e.sz:Nat):Int)/\p=n+e.sz:=by omega
 subst hpn;obtain⟨aN,m,A,_⟩:=N.b.at_;rw[q0V]at A;rw[A]at c1;clear c;obtain⟨M,D⟩:=nam (n+e.sz);have HN:=hyd N;have HF:=hyd FN;rw[<-D]at c1 hge ⊢;clear N FN A D;go_wp2_with fail;go_end0;exact⟨rfl,vh2,vb2,HN.out,HF.out⟩
variable {u : Tmp}
theorem y0f {p:Tmp}{ty:TypeId} (h:fn.results=#[.cell p ty,.tmp u]) (tmps:Array Value) (P:Program) (w:World):
  (results fn tmps).run P w=((asAddr (tmps.getD p undef)).run P w).andThen λa w₁=>((loadVar ty a).run P w₁).andThen λv w₂=>.ok (.tuple #[v,tmps.getD u undef]) w₂:=by
 simp only[results,h];simp[Sem.run_bind,Result.andThen]
theorem q0L {p:Tmp}{ty:TypeId}{P:Program}{ad:Addr}{b:Value} (h:fn.results=#[.cell p ty,.tmp u]) (ht:tmps.getD p undef=.pointer (some ad)) (hl:(loadVar ty ad).run P w=.ok v w) (hb:tmps.getD u undef=b):
  (results fn tmps).run P w=.ok (.tuple #[v,b]) w:=by
 rw[y0f h,ht];subst hb;simp[asAddr,hl]
theorem q6f {e:TypeId} (h:w.ownsRow base e size v n xs) (hb:base'<=base):w.ownsRow base' e size v n xs:=
 ⟨h.1,h.2.imp id (λ⟨g,cap,d,a,b,c⟩=>⟨g,cap,d,a,Nat.le_trans hb b,c⟩)⟩
def netV (vh vb:Value) (F:Nat->Bool):List Value:=vh::vb::bl F 104
theorem q2p (vh vb:Value) (F:Nat->Bool):(netV vh vb F).length=106:=by simp[netV,q0c]
def netZ:List Value:=netV (.slice none 0 0) (.slice none 0 0) (λ_=>false)
theorem q3Y (w:World):(zeroValue 137).run Tryz.prog w=.ok (.agg netZ.toArray) w:=by kernel_rfl
theorem q1U:(Tryz.prog.info? 137).map (·.size)=some 106:=by kernel_rfl
theorem q4d (h1:vh.oneCell'=true) (h2:vb.oneCell'=true) (F:Nat->Bool):(netV vh vb F).toArray.all (·.oneCell')=true:=by
 have:=q0w F 104;simp only[netV];rw[List.all_toArray]at this ⊢;simp only[List.all_cons,h1,h2,this,Bool.and_self]
def netH (es:Nat->Rx):Nat->Nat->Nat->Bool
 |0=>λ_ _=>false
 |k+1=>hsL (netH es k) (es k) (netN es k)
def netB (es:Nat->Rx):Nat->Nat->Nat->Bool
 |0=>λ_ _=>false
 |k+1=>bhR (netB es k) (es k) (netN es k) k (netN es (k+1))
def netF (es:Nat->Rx):Nat->Nat->Bool
 |0=>λ_=>false
 |k+1=>FR (netF es k) (es k) (netN es k) k
variable {ps : List Pt}
theorem y0R {s:ByteArray}:∀ {rs:List Pt}{qs:List Tq},ps.map Pg.Pt.strip=rs->LeOK s ps->Both (SameP s) rs qs->Both Sm ps qs:=by
 induction ps with
 |nil=>intro rs qs h _ a;subst h;cases a;exact Both.nil
 |cons p ps ih=>
  intro rs qs h c a;subst h;cases a with
  |cons h t=>
   refine Both.cons ⟨h.1,h.2.1,h.2.2.1,λb=>?_⟩ (ih rfl (λx d=>c x (by simp[d])) t);rw[c p (by simp) b];exact h.2.2.2 b
theorem y3w (v:Value) (e r a:Int) (w:World) (he:e≠0) (hC:∀W,Below w.heap.size w W->Calls Tryz.prog 124 #[v] W λe' w'=>e'=.returned (.tuple #[.int .i64 e,.int .i64 r,.int .i64 a])/\Below W.heap.size W w'):
  Calls Tryz.prog 64 #[v] w λen w'=>en=.returned (.tuple #[.agg netZ.toArray,.int .i64 e])/\Below w.heap.size w w':=by
 have N:=q3Y;have G:(e==0)=false:=by simpa using he
 have M:(e != 0)=true:=by simp[he]
 obtain⟨W1,f⟩:=nam ((w.alloc (.cells netZ.toArray 137)).alloc (.cells netZ.toArray 137));have m:(w.alloc (.cells netZ.toArray 137)).heap.size=w.heap.size+1:=by simp
 have D:=TC.boxed w netZ 137;have o:=TC.boxed (w.alloc (.cells netZ.toArray 137)) netZ 137;have L:=box_bel w (.cells netZ.toArray 137);have p:=box_bel (w.alloc (.cells netZ.toArray 137)) (.cells netZ.toArray 137);rw[<-f]at o p;rw[m]at o;have s:Below w.heap.size w W1:=L.trans (p.mono (by omega));have E:TC w.heap.size netZ W1:=D.block (p.block _ (by omega));have B:=hyd (hC W1 s);have j:=hyd f;have n:W1.heap.size=w.heap.size+2:=by rw[f];simp
 have d:Hid (W1.heap.size=w.heap.size+2):=n;have C:Hid (TC w.heap.size netZ W1/\TC (w.heap.size+1) netZ W1/\Below w.heap.size w W1):=⟨E,o,s⟩;clear hC f m D o L p s E n he;go_enter Tryz.func64,Tryz.ntmps64;go_wp2_with fail;rw[<-j.out];refine B.out.mono ?_;rintro en w2 ⟨rfl,b⟩;obtain⟨I,J,K⟩:=C.out;have u1:=I.block (b.block _ (by have:=d.out;omega));have u2:=J.block (b.block _ (by have:=d.out;omega));have H:=u2.range;have z:=u1.there;have F:=q0e w.heap.size netZ 0 w2;have l:=World.rangeAt_setCells_same w2 w.heap.size 0 netZ z;have c:=run_loadVar_mid (P:=Tryz.prog) (w2.setCells w.heap.size 0 netZ) w.heap.size 0 137 netZ _ l Tryz.underlying137 rfl q1U;have A:=(K.trans (b.mono (by have:=d.out;omega))).grown F (by have:=d.out;have:=b.size;omega) (λq G=>by cases G;omega);obtain⟨x,h⟩:∃W,W=w2.setCells w.heap.size 0 netZ:=⟨_,rfl⟩;rw[<-h]at c A;have k:Hid (x=w2.setCells w.heap.size 0 netZ):=h;have g:Hid ((loadVar 137 ⟨w.heap.size,0,none⟩).run Tryz.prog x=.ok (.agg netZ.toArray) x):=c;have i:Hid (netZ.toArray.all (·.oneCell')=true):=q4d rfl rfl _;have t:Hid (netZ.length=106):=q2p _ _ _;obtain⟨Z,y⟩:∃Z,Z=netZ:=⟨_,rfl⟩;rw[<-y]at H z k g i t;have u:Hid (Z=netZ):=y;clear I J K u1 u2 F l c h b C B j y;go_wp2_with (first|(with_reducible refine gld 137 ?_;refine wpList_load_mid rfl 137 _ rfl (w.heap.size+1) 0 rfl Z _ H Tryz.underlying137 rfl (by rw[t.out];exact q1U) ?_)|(with_reducible refine gst 137 ?_;refine wpList_store_mid rfl 137 _ _ rfl w.heap.size 0 Z.toArray rfl rfl (by simpa using z) (by simpa[t.out]using q1U) i.out ?_;rw[List.toList_toArray,<-k.out]));refine bodyPost_ret (v:=.tuple #[.agg Z.toArray,.int .i64 e]) (q0L Tryz.results64 rfl g.out rfl) rfl ?_;exact⟨by rw[u.out],A⟩
def OfPost (es:Nat->Rx) (n:Nat) (w:World) (en:Ending) (w':World):Prop:=
 ∃vh vb,en=.returned (.tuple #[.agg (netV vh vb (netF es n)).toArray,.int .i64 0])/\OwnH w.heap.size vh (mkL (netN es n) (netH es n)) w'/\OwnS w.heap.size vb (mkL (netN es n) (netB es n)) w'/\Below w.heap.size w w'
theorem y3K (b off cap n:Nat) (f:Nat->ByteArray) (w:World) (h1:1<=n) (h8:n<=8) (hb:b<w.heap.size) (hm:∀i,i<n->(f i).size<=maxLen) (hr:SRow b off f n w) (hok:∀j,j<n->(Pg.wrong (bat (f j)) (f j).size).1=0) (hsum:¬96<sumTo (λj=>placesP (f j)) n):
  Calls Tryz.prog 64 #[.slice (some ⟨b,off,none⟩) n cap] w (OfPost (λj=>rxOf (f j)) n w):=by
 have hz:=q3Y;obtain⟨es,r⟩:∃es:Nat->Rx,es=λj=>rxOf (f j):=⟨_,rfl⟩
 rw[<-r];have J:∀j,j<n->(Pg.readParts (bat (f j)) (f j).size).ok=true:=λj hj=>((q0N (f j)).2 (hok j hj)).2.2
 have ax:=(q6i es (λj=>placesP (f j)) n (λi E=>by rw[r];exact q3i (f i) (J i E)) hsum).2;have HC:Hid (∀W,Below w.heap.size w W->Calls Tryz.prog 124 #[.slice (some ⟨b,off,none⟩) n cap] W λe' w'=>e'=.returned (.tuple #[.int .i64 0,.int .i64 0,.int .i64 0])/\Below W.heap.size W w'):=λW U=>
  q4z b off cap n f 0 0 0 W h1 h8 (by have:=U.size;omega) hm (hr.below hb U) (Or.inr ⟨hok,rfl,rfl,by rw[if_neg hsum]⟩)
 have al:Hid (∀i,i<n->∀W,Calls Tryz.prog 125 #[.string (f i)] W λen w'=>∃ad cp ps,en=.returned (.tuple #[.slice ad ps.length cp,.int .i64 0,.int .i64 (Pg.wrong (bat (f i)) (f i).size).2])/\Below W.heap.size W w'/\PS ad ps w'/\ps.length<=100/\ps.length<=cp/\(∀g o x,ad=some ⟨g,o,x⟩->W.heap.size<=g/\g<w'.heap.size)/\(∀p∈ps,0<=p.mo/\p.mo<=9)/\∃F L,Pp F 2 L (es i)/\Both Sm ps L):=by
  intro i E W;refine(q4Z (f i) W (hm i E)).mono ?_;rintro en w' ⟨v,ps,rfl,U,H⟩;obtain⟨hO,K,hl,ab⟩:=H (hok i E);obtain⟨L,F,_,_,q3,q4⟩:=q3g (f i) (J i E);have t:∀p∈ps,0<=p.mo/\p.mo<=9:=λp hp=>by
   have:=Pg.readParts_mo (bat (f i)) (f i).size p.strip (by rw[<-K];exact List.mem_map.2 ⟨p,hp,rfl⟩);exact this
  rcases hO.2 with ⟨rfl,h0⟩|⟨g,cp,aw,rfl,ao,aa,ap,_⟩
  ·have ar:=List.eq_nil_of_length_eq_zero h0;subst ar;exact⟨none,0,[],by rw[hok i E];rfl,U,λk p hp=>by simp at hp,by simp,by simp,(λg o x h=>by cases h),t,F,L,by rw[r];exact q4,y0R K ab q3⟩
  refine⟨some ⟨g,0,none⟩,cp,ps,by rw[hok i E],U,λk p hp=>⟨g,0,rfl,?_⟩,hl,ap,λg' o x h=>?_,t,F,L,by rw[r];exact q4,y0R K ab q3⟩
  ·have:=q2d hO k p hp;rw[Nat.zero_add];exact this
  cases h;refine⟨ao,?_⟩;rcases Nat.lt_or_ge g w'.heap.size with h|h
  ·exact h
  rw[Array.getElem?_eq_none h]at aa;cases aa
 obtain⟨W1,C⟩:=nam ((w.alloc (.cells netZ.toArray 137)).alloc (.cells netZ.toArray 137));have af:(w.alloc (.cells netZ.toArray 137)).heap.size=w.heap.size+1:=by simp
 have T1:=TC.boxed w netZ 137;have T2:=TC.boxed (w.alloc (.cells netZ.toArray 137)) netZ 137;have x1:=box_bel w (.cells netZ.toArray 137);have x2:=box_bel (w.alloc (.cells netZ.toArray 137)) (.cells netZ.toArray 137);rw[<-C]at T2 x2;rw[af]at T2;have B1:Below w.heap.size w W1:=x1.trans (x2.mono (by omega));have U1:TC w.heap.size netZ W1:=T1.block (x2.block _ (by omega));have M:=hyd (HC.out W1 B1);have R:=hyd C;have ah:W1.heap.size=w.heap.size+2:=by rw[C];simp
 have A:=hyd ah;have HT:=hyd3 U1 T2 B1;have Hr:=hyd hr;clear HC C af T1 T2 x1 x2 B1 U1 ah hm hok hsum J hr r;go_enter Tryz.func64,Tryz.ntmps64;go_wp2_with fail;rw[<-R.out];refine M.out.mono ?_;rintro en w2 ⟨rfl,l⟩;obtain⟨t1,t2,t3⟩:=HT.out;have u1:=t1.block (l.block _ (by have:=A.out;omega));have u2:=t2.block (l.block _ (by have:=A.out;omega));have B2:Below w.heap.size w w2:=t3.trans (l.mono (by have:=A.out;omega));have ai:w.heap.size+2<=w2.heap.size:=by have:=A.out;have:=l.size;omega
 have N0:NetIn (w.heap.size+1) (w.heap.size+2) (.slice none 0 0) (.slice none 0 0) (netN es 0) (netH es 0) (netB es 0) (netF es 0) w2:=⟨u2,OwnH.nil _ _,OwnS.nil _ _,λk H=>by cases H⟩;have ay:(n:Int)<=8:=by omega
 clear t1 t2 t3 u2 l HT M R;go_wp2_with fail
 go_loopw [25] (λx w'=>∃(i:Nat) (vh vb:Value),x=.int .i64 i/\i<=n/\NetIn (w.heap.size+1) (w.heap.size+2) vh vb (netN es i) (netH es i) (netB es i) (netF es i) w'/\Below w.heap.size w w'/\TC w.heap.size netZ w'/\w.heap.size+2<=w'.heap.size) (λx _=>n-(intOf x).toNat)
 ·exact⟨0,.slice none 0 0,.slice none 0 0,rfl,by omega,N0,B2,u1,ai⟩
 clear N0 B2 u1 ai;obtain⟨i,vh,vb,rfl,E,N,B,u,hw⟩:=hrel;by_cases I:i<n
 ·have av:(i:Int)<n:=by omega
  have ci:=(Hr.out.below hb B) i I;have Q:=hyd (al.out i I wr);go_wp2_with fail;refine Q.out.mono ?_;rintro en w3 ⟨ad,cp,ps,rfl,m,T,hl,Y,ag,t,F,L,ac,X⟩;have N3:=N.below m;have a:=N.h.blk;have d:=N.b.blk;have az:=m.size;have aq:netN es i+(es i).sz<=96:=by have:=q0M es (show i+1<=n from I);simp only[netN]at this;omega
  have O:Hid (Calls Tryz.prog 126 #[.pointer (some ⟨w.heap.size+1,0,none⟩),.slice ad ps.length cp,.int .i64 i] w3 λen w'=>∃vh' vb',en=.returned (.tuple #[])/\NetIn (w.heap.size+1) (w.heap.size+2) vh' vb' (netN es i+(es i).sz) (hsL (netH es i) (es i) (netN es i)) (bhR (netB es i) (es i) (netN es i) i (netN es i+(es i).sz)) (FR (netF es i) (es i) (netN es i) i) w'/\NF (w.heap.size+1) vh vb vh' vb' w3 w'):=
   y3f F L (es i) ps ad cp (w.heap.size+1) (w.heap.size+2) vh vb (netN es i) (netH es i) (netB es i) (netF es i) i w3 ac X ⟨N3,by omega,by omega,T,hl,Y,λg o x h=>by
    obtain⟨g1,g2⟩:=ag g o x h;exact⟨g2,by omega,λe=>by have:=(a g e).2;omega,λe=>by have:=(d g e).2;omega⟩⟩ aq t (by omega)
  have B3:=B.trans (m.mono B.size);have u3:=u.block (m.block _ (by omega));clear T hl Y ag t ac X N N3 a d ci Q;go_wp2_with fail;refine O.out.mono ?_;rintro en w4 ⟨vh2,vb2,rfl,N4,F4⟩;have B4:Below w.heap.size w w4:=B3.trans (F4.b.mono (by omega));have u4:=u3.block (F4.b.block _ (by omega));have au:w.heap.size+2<=w4.heap.size:=by have:=F4.b.size;omega
  clear F4 B3 u3 O m;go_wp2_with fail;go_roundw
  ·exact⟨i+1,vh2,vb2,by go_num,by omega,N4,B4,u4,au⟩
  simp[intOf];omega
 have⟨hge,hin⟩:¬(i:Int)<n/\i=n:=by omega
 subst hin;have rN:=N.c.range;have tA:=u.there;obtain⟨Z,V⟩:=nam (netV vh vb (netF es i));have D:Z.length=106:=by rw[V];exact q2p _ _ _
 rw[show(vh::vb::bl (netF es i) 104)=Z from V.symm]at rN;have aj:netZ.length=106:=q2p _ _ _;rw[aj]at tA;have hG:=q0e w.heap.size Z 0 wr;have ae:=World.rangeAt_setCells_same wr w.heap.size 0 Z (by rw[D];exact tA);have s:=run_loadVar_mid (P:=Tryz.prog) (wr.setCells w.heap.size 0 Z) w.heap.size 0 137 Z _ ae Tryz.underlying137 rfl (by rw[D];exact q1U);have BX:=B.grown hG B.size (λq hq=>by cases hq;omega);have a:=N.h.blk;have d:=N.b.blk;have OH:=(N.h.grown hG (λk H e=>by have:=Option.some.inj e;have:=(a k H).1;omega));have OB:=(N.b.grown hG (λk H e=>by have:=Option.some.inj e;have:=(d k H).1;omega));have y:vh.oneCell'=true:=by obtain⟨a1,c1,e1,_⟩:=N.h.at_;rw[e1];rfl
 have z:vb.oneCell'=true:=by obtain⟨a1,c1,e1,_⟩:=N.b.at_;rw[e1];rfl
 have ak:Hid (Z.toArray.all (·.oneCell')=true):=by show _=true;rw[V];exact q4d y z _
 obtain⟨WX,G⟩:=nam (wr.setCells w.heap.size 0 Z);rw[<-G]at s BX OH OB;have am:=hyd G;have S:=hyd s;have HZ:=hyd D;have an:=hyd V;have HO:Hid (OwnH w.heap.size vh (mkL (netN es i) (netH es i)) WX/\OwnS w.heap.size vb (mkL (netN es i) (netB es i)) WX/\Below w.heap.size w WX):=⟨q6f OH (by omega),q6f OB (by omega),BX⟩;clear N B u hG ae s a d OH OB y z G D V BX aj;go_wp2_with (first|(with_reducible refine gld 137 ?_;refine wpList_load_mid rfl 137 _ rfl (w.heap.size+1) 0 rfl Z _ rN Tryz.underlying137 rfl (by rw[HZ.out];exact q1U) ?_)|(with_reducible refine gst 137 ?_;refine wpList_store_mid rfl 137 _ _ rfl w.heap.size 0 Z.toArray rfl rfl (by simpa[HZ.out]using tA) (by simpa[HZ.out]using q1U) ak.out ?_;rw[List.toList_toArray,<-am.out]));refine bodyPost_ret (v:=.tuple #[.agg Z.toArray,.int .i64 0]) (q0L Tryz.results64 rfl S.out rfl) rfl ?_;exact⟨vh,vb,by rw[an.out],HO.out.1,HO.out.2.1,HO.out.2.2⟩
end Go.Proofs.YtoaaklhpmhjhkaaGreat
