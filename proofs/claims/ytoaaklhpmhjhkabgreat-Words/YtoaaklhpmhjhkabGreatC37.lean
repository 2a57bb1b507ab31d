import Derived.Test.YtoaaklhpmhjhkabGreatC05
import Derived.Test.YtoaaklhpmhjhkabGreatC31
set_option maxRecDepth 100000
set_option maxHeartbeats 4000000
set_option linter.all false
namespace Go.Proofs.YtoaaklhpmhjhkabGreat
open Go.RowKit
open Bm
structure Rw (b n:Nat) (ad:Option Addr) (nn cap:Nat) (nx:Nat->Int) (w:World):Prop where
 c0:w.cell? ⟨b,0,none⟩=some (.int .i64 n)
 c1:w.cell? ⟨b,1,none⟩=some (.slice ad nn cap)
 il:IL ad nx nn w
variable {ck nt:List Int}{b base cap cb g i m n:Nat}{nx:Nat->Int}{ad:Option Addr}{v vc vc' vn vn':Value}{W w w' w'' w5:World}
theorem Rw.below {nn:Nat} (h:Rw b n ad nn cap nx w) (hW:Below w.heap.size w w'):Rw b n ad nn cap nx w':=by
 have hb:=World.block_lt_of_cell? w _ h.c0;have e:∀k,w'.cell? ⟨b,k,none⟩=w.cell? ⟨b,k,none⟩:=fun k=>hW.cell (p:=⟨b,k,none⟩) hb
 exact⟨by rw[e];exact h.c0,by rw[e];exact h.c1,h.il.below hW⟩
def FZ (n nn:Nat) (s:Int):Prop:=s=-1\/∃m:Nat,s=m/\m<=96/\m*n+n<=nn
theorem Sw (b n:Nat) (ad:Option Addr) (nn cap:Nat) (nx:Nat->Int) (s:Int) (c:Nat) (w:World) (h:Rw b n ad nn cap nx w) (hn:n<=256) (hnn:nn<=24576) (hs:FZ n nn s) (hc:c<n):
  Calls Tryz.prog 25 #[.pointer (some ⟨b,0,none⟩),.int .i64 s,.int .i64 c] w fun e w'=>e=.returned (.int .i64 (Pk.ld nx n s c))/\Below w.heap.size w w':=by
 rcases hs with rfl|⟨m,rfl,hm,hmn⟩
 ·rw[Pk.ld_none];clear h;go_enter Tryz.func25,Tryz.ntmps25;go_wp2_with fail;go_ret;exact⟨rfl,Below.refl _ _⟩
 ·rw[Pk.ld_nat];obtain⟨p,hp⟩:∃p:Nat,p=m*n:=⟨_,rfl⟩;rw[<-hp]at hmn ⊢;have ip:(m:Int)*(n:Int)=(p:Int):=by rw[hp];simp
  clear hp;obtain⟨k,hk⟩:∃k:Nat,k=p+c:=⟨_,rfl⟩;rw[<-hk];have ik:(p:Int)+(c:Int)=(k:Int):=by omega
  have hkn:k<nn:=by omega
  have hkn':(k:Int)<nn:=by omega
  obtain⟨g,o,rfl,ck⟩:=h.il k hkn;have c0:=h.c0;have c1:=h.c1;have q1:((m:Int)==-1)=false:=by simp
  have hpb:p<=24576:=by omega
  clear h hk;go_enter Tryz.func25,Tryz.ntmps25;go_wp2_with fail
  go_quiet (fail)
  go_wp2_with fail;go_ret;exact⟨rfl,Wc _ _ _⟩
def Vx (l:List Nat):List Int:=l.map fun(a:Nat)=>(a:Int)
theorem Vq (l:List Nat):(Vx l).length=l.length:=by simp[Vx]
theorem NI (l r:List Nat):Vx (l++r)=Vx l++Vx r:=by simp[Vx]
theorem Jy (b n:Nat) (ad:Option Addr) (nn cap:Nat) (nx:Nat->Int) (s d:Int) (w:World) (h:Rw b n ad nn cap nx w) (hn:n<=256) (hnn:nn<=24576) (hs:FZ n nn s) (hd:FZ n nn d):
  Calls Tryz.prog 49 #[.pointer (some ⟨b,0,none⟩),.int .i64 s,.int .i64 d] w fun e w'=>∃v,e=.returned v/\OwnL w.heap.size v (Vx (Pk.dif nx n s d n)) w'/\Below w.heap.size w w':=by
 have HR:Hid (∀w',Below w.heap.size w w'->w'.cell? ⟨b,0,none⟩=some (.int .i64 n)):=fun w' h'=>(h.below h').c0
 have HS:Hid (∀(c:Nat) (w':World),c<n->Below w.heap.size w w'->Calls Tryz.prog 25 #[.pointer (some ⟨b,0,none⟩),.int .i64 s,.int .i64 c] w' fun e w''=>e=.returned (.int .i64 (Pk.ld nx n s c))/\Below w'.heap.size w' w''):=fun c w' hc h'=>Sw b n ad nn cap nx s c w' (h.below h') hn hnn hs hc
 have HD:Hid (∀(c:Nat) (w':World),c<n->Below w.heap.size w w'->Calls Tryz.prog 25 #[.pointer (some ⟨b,0,none⟩),.int .i64 d,.int .i64 c] w' fun e w''=>e=.returned (.int .i64 (Pk.ld nx n d c))/\Below w'.heap.size w' w''):=fun c w' hc h'=>Sw b n ad nn cap nx d c w' (h.below h') hn hnn hd hc
 clear h hs hd;go_enter Tryz.func49,Tryz.ntmps49;go_wp2_with fail
 go_loopw [7,8] (fun v x w'=>∃k:Nat,k<=n/\x=.int .i64 k/\OwnL w.heap.size v (Vx (Pk.dif nx n s d k)) w'/\Below w.heap.size w w') (fun _ x _=>n-(intOf x).toNat)
 case atStart=>exact⟨0,by omega,rfl,OwnL.nil _ _,Below.refl _ _⟩
 case round=>
  obtain⟨k,hk,rfl,hO,hB⟩:=hrel;have c0:=HR.out wr hB;by_cases hlt:k<n
  ·have hlt':(k:Int)<n:=by omega
   go_wp2_with fail;clear c0;refine(HS.out k _ hlt hB).mono ?_;rintro e w1 ⟨rfl,hW1⟩;have hB1:=hB.trans (hW1.mono hB.size);have hO1:=hO.below hW1;clear hO hB hW1;go_wp2_with fail;refine(HD.out k _ hlt hB1).mono ?_;rintro e w2 ⟨rfl,hW2⟩;have hB2:=hB1.trans (hW2.mono hB1.size);have hO2:=hO1.below hW2;clear hO1 hB1 hW2;have hdl:=Pk.dif_len nx n s d k;by_cases he:Pk.ld nx n s k=Pk.ld nx n d k
   ·have e1:=Pk.dif_eq he;rw[<-e1]at hO2;have q2:(Pk.ld nx n s k != Pk.ld nx n d k)=false:=by simp[he]
    clear e1 he;go_wp2_with fail;go_roundw
    case rel=>exact⟨k+1,by omega,by go_num,hO2,hB2⟩
    case measure=>simp[intOf];omega
   ·have E1:=hyd (Pk.dif_ne he);have q2:(Pk.ld nx n s k != Pk.ld nx n d k)=true:=by simp[he]
    have hx:=box_bel w2 (.cells #[.int .i64 (k:Int)] 3);have hO3:=hO2.below hx;have hB3:=hB2.trans (hx.mono hB2.size);have hge2:=hO3.blk;have hnw:(w2.alloc (.cells #[.int .i64 (k:Int)] 3)).cell? ⟨w2.heap.size,0,none⟩=some (.int .i64 (k:Int)):=by rw[World.cell?_alloc_new];rfl
    have hbs:=hB3.size;clear he hx hO2 hB2;go_wp2_with (first|(at_builtin;refine wpList_append_int (by rfl) _ _ (by rfl) w.heap.size u7 (Vx (Pk.dif nx n s d k)) (by rfl) hO3 (by rw[Vq];omega) w2.heap.size k (by rfl) hnw hbs _ rfl ?_;intro g cap w5 hO5 hgrow hgb hl5));have e1:Vx (Pk.dif nx n s d k)++[(k:Int)]=Vx (Pk.dif nx n s d (k+1)):=by rw[E1.out,NI];rfl
    rw[e1]at hO5;go_roundw
    case rel=>exact⟨k+1,by omega,by go_num,hO5,hB3.grown hgrow hbs (fun q hq=>(hge2 q hq).1)⟩
    case measure=>simp[intOf];omega
  ·have hge:¬(k:Int)<n:=by omega
   have hkn:k=n:=by omega
   go_wp2_with fail;go_ret;refine⟨u7,rfl,?_,hB⟩;rw[hkn]at hO;exact hO
theorem KT (b n:Nat) (ad:Option Addr) (nn cap:Nat) (nx:Nat->Int) (s:Nat) (w:World) (h:Rw b n ad nn cap nx w) (hn:n<=256) (hnn:nn<=24576) (hs:s<=96) (hsn:s*n+n<=nn):
  Calls Tryz.prog 23 #[.pointer (some ⟨b,0,none⟩),.int .i64 s] w fun e w'=>∃v,e=.returned (.tuple #[.int .i64 (Pk.df nx n s),v])/\OwnL w.heap.size v (Vx (Pk.own nx n s)) w'/\Below w.heap.size w w':=by
 have HC:Hid (∀(d:Int) (w':World),(d=-1\/∃m:Nat,d=m/\m<s)->Below w.heap.size w w'->Calls Tryz.prog 49 #[.pointer (some ⟨b,0,none⟩),.int .i64 s,.int .i64 d] w' fun e w''=>∃v,e=.returned v/\OwnL w'.heap.size v (Vx (Pk.dif nx n s d n)) w''/\Below w'.heap.size w' w''):=fun d w' hd h'=>by
  refine Jy b n ad nn cap nx s d w' (h.below h') hn hnn (Or.inr ⟨s,rfl,hs,hsn⟩) ?_;rcases hd with hd|⟨m,hm,hms⟩
  ·exact Or.inl hd
  ·refine Or.inr ⟨m,hm,by omega,?_⟩;have:m*n<=s*n:=Nat.mul_le_mul_right n (by omega);omega
 clear h hsn;go_enter Tryz.func23,Tryz.ntmps23;go_wp2_with fail;refine(HC.out (-1) _ (Or.inl rfl) (Below.refl _ _)).mono ?_;rintro e w1 ⟨v1,rfl,hO1,hB1⟩;have hO1':=hO1;clear hO1;go_wp2_with fail
 go_loopw [6,7,8] (fun x v y w'=>∃d:Nat,d<=s/\y=.int .i64 d/\x=.int .i64 (Pk.near nx n s d).1/\OwnL w.heap.size v (Vx (Pk.near nx n s d).2) w'/\Below w.heap.size w w') (fun _ _ y _=>s-(intOf y).toNat)
 case atStart=>exact⟨0,by omega,rfl,rfl,hO1',hB1⟩
 case round=>
  clear hO1' hB1;obtain⟨d,hd,rfl,rfl,hO,hB⟩:=hrel;obtain⟨a7,c7,hv7,_⟩:=hO.il;rw[Vq]at hv7;subst hv7;by_cases hlt:d<s
  ·have hlt':(d:Int)<s:=by omega
   go_wp2_with fail;refine(HC.out d _ (Or.inr ⟨d,rfl,hlt⟩) hB).mono ?_;rintro e w2 ⟨v2,rfl,hO2,hB2⟩;have hO3:=hO.below hB2;have hB3:=hB.trans (hB2.mono hB.size);have hO4:=hO2.mono hB.size;obtain⟨a9,c9,hv9,_⟩:=hO4.il;rw[Vq]at hv9;subst hv9;clear hO hB hO2 hB2;by_cases hl:(Pk.dif nx n s d n).length<(Pk.near nx n s d).2.length
   ·have E1:=hyd (Pk.near_lt hl);have hl':((Pk.dif nx n s d n).length:Int)<((Pk.near nx n s d).2.length:Int):=by omega
    clear hl;go_wp2_with fail;go_roundw
    case rel=>exact⟨d+1,by omega,by go_num,by rw[E1.out],by rw[E1.out];exact hO4,hB3⟩
    case measure=>simp[intOf];omega
   ·have E1:=hyd (Pk.near_ge hl);have hl':¬((Pk.dif nx n s d n).length:Int)<((Pk.near nx n s d).2.length:Int):=by omega
    clear hl;go_wp2_with fail;go_roundw
    case rel=>exact⟨d+1,by omega,by go_num,by rw[E1.out],by rw[E1.out];exact hO3,hB3⟩
    case measure=>simp[intOf];omega
  ·have hge:¬(d:Int)<s:=by omega
   have hds:d=s:=by omega
   subst hds;go_wp2_with fail;go_ret2;exact⟨_,rfl,hO,hB⟩
theorem Bm.OwnL.at_ {l:List Int} (h:OwnL base (.slice (some ⟨g,0,none⟩) m cap) l w) (k:Nat) (hk:k<l.length):w.cell? ⟨g,k,none⟩=some (.int .i64 (l.getD k 0))/\w.frozen? ⟨g,k,none⟩=false:=by
 rcases h.2 with ⟨h0,_⟩|⟨g',cap',cur,h0,h1,h2,h3,h4,h5,h6⟩
 ·cases h0
 ·have e:g'=g:=by cases h0;rfl
  subst e;have hx:=h.cells (g:=g') rfl k (.int .i64 (l.getD k 0)) (by simp[ints,List.getD_eq_getElem?_getD,hk]);rw[Addr.add_lit,Nat.zero_add]at hx;refine⟨hx,?_⟩;simp[World.frozen?,h2]
theorem Bm.OwnL.some_ {l:List Int} (h:OwnL base v l w) (hl:0<l.length):∃g cap,v=.slice (some ⟨g,0,none⟩) l.length cap:=by
 rcases h.2 with ⟨rfl,h0⟩|⟨g,cap,cur,rfl,_⟩
 ·omega
 ·exact⟨g,cap,rfl⟩
theorem Bm.OwnL.set_ {l:List Int} (h:OwnL base (.slice (some ⟨g,0,none⟩) l.length cap) l w) (k:Nat) (x:Int):OwnL base (.slice (some ⟨g,0,none⟩) l.length cap) (l.set k x) (w.setCell ⟨g,k,none⟩ (.int .i64 x)):=by
 rcases h.2 with ⟨h0,_⟩|⟨g',cap',cur,h0,h1,h2,h3,h4,h5,h6⟩
 ·cases h0
 ·have e:g'=g:=by cases h0;rfl
  have e2:cap'=cap:=by cases h0;rfl
  subst e;subst e2;refine⟨by simp[ints],Or.inr ⟨g',cap',cur.setIfInBounds k (.int .i64 x),by simp,h1,?_,by simpa using h3,h4,by simpa using h5,?_⟩⟩
  ·have hlt:=(Array.getElem?_eq_some_iff.1 h2).1;unfold World.setCell;simp only[Array.getElem?_modify];rw[h2];rfl
  ·simp only[List.length_set,Nat.mul_one]at h6 ⊢;rw[Array.toList_setIfInBounds,List.take_set,h6];simp[ints,List.map_set]
structure Cs (base cb:Nat) (vc vn:Value) (ck nt:List Int) (w:World):Prop where
 s:TC cb [vc,vn] w
 c:OwnL base vc ck w
 n:OwnL base vn nt w
 ne:∀k,vc.ownBlock=some k->vn.ownBlock≠some k
 lt:cb<base
theorem Cs.below (h:Cs base cb vc vn ck nt w) (hW:Below w.heap.size w w'):Cs base cb vc vn ck nt w':=
 ⟨h.s.below hW,h.c.below hW,h.n.below hW,h.ne,h.lt⟩
theorem Cs.keep (h:Cs base cb vc vn ck nt w) (h0:w'.heap[cb]?=w.heap[cb]?) (h1:∀k,vc.ownBlock=some k->w'.heap[k]?=w.heap[k]?) (h2:∀k,vn.ownBlock=some k->w'.heap[k]?=w.heap[k]?):Cs base cb vc vn ck nt w':=
 ⟨h.s.block h0,h.c.keep h1,h.n.keep h2,h.ne,h.lt⟩
structure Xx (cb:Nat) (vc vn vc' vn':Value) (w w':World):Prop where
 bel:Below cb w w'
 kept:∀q,q<w.heap.size->q≠cb->vc.ownBlock≠some q->vn.ownBlock≠some q->w'.heap[q]?=w.heap[q]?
 oc:∀q,vc'.ownBlock=some q->vc.ownBlock=some q\/w.heap.size<=q
 on:∀q,vn'.ownBlock=some q->vn.ownBlock=some q\/w.heap.size<=q
theorem Xx.refl (cb:Nat) (vc vn:Value) (w:World):Xx cb vc vn vc vn w w:=⟨Below.refl _ _,fun _ _ _ _ _=>rfl,fun _ h=>Or.inl h,fun _ h=>Or.inl h⟩
theorem Xx.trans {vc'' vn'':Value} (h:Xx cb vc vn vc' vn' w w') (h':Xx cb vc' vn' vc'' vn'' w' w''):Xx cb vc vn vc'' vn'' w w'':=by
 refine⟨h.bel.trans h'.bel,fun q hq h0 h1 h2=>?_,fun q hq=>?_,fun q hq=>?_⟩
 ·have hz:=h.bel.size;rw[h'.kept q (by omega) h0 (fun e=>?_) (fun e=>?_),h.kept q hq h0 h1 h2]
  ·rcases h.oc q e with e|e
   ·exact h1 e
   ·omega
  ·rcases h.on q e with e|e
   ·exact h2 e
   ·omega
 ·have hz:=h.bel.size;rcases h'.oc q hq with e|e
  ·exact h.oc q e
  ·exact Or.inr (by omega)
 ·have hz:=h.bel.size;rcases h'.on q hq with e|e
  ·exact h.on q e
  ·exact Or.inr (by omega)
theorem Cs.pushC {base cb:Nat}{vc vn:Value}{ck nt:List Int}{W W1 w5:World}{x:Int}{g cap:Nat}{ob:Obj} (h:Cs base cb vc vn ck nt W) (hW1:W1=W.alloc ob)
  (h5:OwnL base (.slice (some ⟨g,0,none⟩) (ck.length+1) cap) (ck++[x]) w5) (hg:W1.grownBy w5 vc.ownBlock) (hgb:vc.ownBlock=some g\/g=W1.heap.size):
  Cs base cb (.slice (some ⟨g,0,none⟩) (ck.length+1) cap) vn (ck++[x]) nt (w5.setCell ⟨cb,0,none⟩ (.slice (some ⟨g,0,none⟩) (ck.length+1) cap))/\Xx cb vc vn (.slice (some ⟨g,0,none⟩) (ck.length+1) cap) vn W (w5.setCell ⟨cb,0,none⟩ (.slice (some ⟨g,0,none⟩) (ck.length+1) cap)):=by
 have hlt:=h.lt;have hcb:=h.s.lt;have x1:Below W.heap.size W W1:=by rw[hW1];exact box_bel _ _
 have hz1:W1.heap.size=W.heap.size+1:=by rw[hW1];simp
 have k1:=h.below x1;have hb:∀k,k≠cb->(w5.setCell ⟨cb,0,none⟩ (.slice (some ⟨g,0,none⟩) (ck.length+1) cap)).heap[k]?=w5.heap[k]?:=fun k hk=>Below.heap_setCell w5 ⟨cb,0,none⟩ _ k (fun e=>hk e)
 have hgc:base<=g:=(h5.blk g rfl).1;have hc:=h.c.blk;have hn:=h.n.blk;refine⟨⟨?_,?_,?_,?_,hlt⟩,?_,?_,?_,?_⟩
 ·exact(k1.s.block (hg.block _ (by omega) (fun e=>by have:=(hc _ e.symm).1;omega))).set 0 (by simp) _
 ·exact h5.keep (fun k hk=>hb k (by cases hk;show g≠_;omega))
 ·exact(k1.n.grown hg (fun k hk e=>h.ne k e hk)).keep (fun k hk=>hb k (by have:=(hn k hk).1;omega))
 ·intro k hk e;have e2:g=k:=Option.some.inj hk;rcases hgb with h1|h1
  ·rw[e2]at h1;exact h.ne k h1 e
  ·have:=(hn k e).2;omega
 ·exact((x1.mono (Nat.le_of_lt hcb)).grown hg (by omega) (fun q hq=>by have:=(hc q hq).1;omega)).setCell (p:=⟨cb,0,none⟩) (Nat.le_refl _) _
 ·intro q hq h0 h1 h2;rw[hb q h0,hg.block q (by omega) (fun e=>h1 e.symm),x1.block q hq]
 ·intro q hq;have e2:g=q:=Option.some.inj hq;rcases hgb with h1|h1
  ·left;rw[h1,e2]
  ·right;omega
 ·exact fun q hq=>Or.inl hq
theorem Cs.pushN {base cb:Nat}{vc vn:Value}{ck nt:List Int}{W W1 w5:World}{x:Int}{g cap:Nat}{ob:Obj} (h:Cs base cb vc vn ck nt W) (hW1:W1=W.alloc ob)
  (h5:OwnL base (.slice (some ⟨g,0,none⟩) (nt.length+1) cap) (nt++[x]) w5) (hg:W1.grownBy w5 vn.ownBlock) (hgb:vn.ownBlock=some g\/g=W1.heap.size):
  Cs base cb vc (.slice (some ⟨g,0,none⟩) (nt.length+1) cap) ck (nt++[x]) (w5.setCell ⟨cb,1,none⟩ (.slice (some ⟨g,0,none⟩) (nt.length+1) cap))/\Xx cb vc vn vc (.slice (some ⟨g,0,none⟩) (nt.length+1) cap) W (w5.setCell ⟨cb,1,none⟩ (.slice (some ⟨g,0,none⟩) (nt.length+1) cap)):=by
 have hlt:=h.lt;have hcb:=h.s.lt;have x1:Below W.heap.size W W1:=by rw[hW1];exact box_bel _ _
 have hz1:W1.heap.size=W.heap.size+1:=by rw[hW1];simp
 have k1:=h.below x1;have hb:∀k,k≠cb->(w5.setCell ⟨cb,1,none⟩ (.slice (some ⟨g,0,none⟩) (nt.length+1) cap)).heap[k]?=w5.heap[k]?:=fun k hk=>Below.heap_setCell w5 ⟨cb,1,none⟩ _ k (fun e=>hk e)
 have hgc:base<=g:=(h5.blk g rfl).1;have hc:=h.c.blk;have hn:=h.n.blk;refine⟨⟨?_,?_,?_,?_,hlt⟩,?_,?_,?_,?_⟩
 ·exact(k1.s.block (hg.block _ (by omega) (fun e=>by have:=(hn _ e.symm).1;omega))).set 1 (by simp) _
 ·exact(k1.c.grown hg (fun k hk e=>h.ne k hk e)).keep (fun k hk=>hb k (by have:=(hc k hk).1;omega))
 ·exact h5.keep (fun k hk=>hb k (by cases hk;show g≠_;omega))
 ·intro k hk e;have e2:g=k:=Option.some.inj e;rcases hgb with h1|h1
  ·rw[e2]at h1;exact h.ne k hk h1
  ·have:=(hc k hk).2;omega
 ·exact((x1.mono (Nat.le_of_lt hcb)).grown hg (by omega) (fun q hq=>by have:=(hn q hq).1;omega)).setCell (p:=⟨cb,1,none⟩) (Nat.le_refl _) _
 ·intro q hq h0 h1 h2;rw[hb q h0,hg.block q (by omega) (fun e=>h2 e.symm),x1.block q hq]
 ·exact fun q hq=>Or.inl hq
 ·intro q hq;have e2:g=q:=Option.some.inj hq;rcases hgb with h1|h1
  ·left;rw[h1,e2]
  ·right;omega
theorem Cs.setC (h:Cs base cb (.slice (some ⟨g,0,none⟩) ck.length cap) vn ck nt W) (k:Nat) (x:Int):
  Cs base cb (.slice (some ⟨g,0,none⟩) ck.length cap) vn (ck.set k x) nt (W.setCell ⟨g,k,none⟩ (.int .i64 x))/\Xx cb (.slice (some ⟨g,0,none⟩) ck.length cap) vn (.slice (some ⟨g,0,none⟩) ck.length cap) vn W (W.setCell ⟨g,k,none⟩ (.int .i64 x)):=by
 have hlt:=h.lt;have hg:=(h.c.blk g rfl).1;have hb:∀q,q≠g->(W.setCell ⟨g,k,none⟩ (.int .i64 x)).heap[q]?=W.heap[q]?:=fun q hq=>Below.heap_setCell W ⟨g,k,none⟩ _ q (fun e=>hq e)
 refine⟨⟨h.s.block (hb _ (by omega)),h.c.set_ k x,h.n.keep (fun q hq=>hb q (fun e=>h.ne g rfl (by rw[<-e];exact hq))),h.ne,hlt⟩,?_,?_,fun _ h=>Or.inl h,fun _ h=>Or.inl h⟩
 ·exact(Below.refl _ _).setCell (p:=⟨g,k,none⟩) (Nat.le_trans (Nat.le_of_lt hlt) hg) _
 ·exact fun q _ _ h1 _=>hb q (fun e=>h1 (by rw[e];rfl))
theorem Cs.setN (h:Cs base cb vc (.slice (some ⟨g,0,none⟩) nt.length cap) ck nt W) (k:Nat) (x:Int):
  Cs base cb vc (.slice (some ⟨g,0,none⟩) nt.length cap) ck (nt.set k x) (W.setCell ⟨g,k,none⟩ (.int .i64 x))/\Xx cb vc (.slice (some ⟨g,0,none⟩) nt.length cap) vc (.slice (some ⟨g,0,none⟩) nt.length cap) W (W.setCell ⟨g,k,none⟩ (.int .i64 x)):=by
 have hlt:=h.lt;have hg:=(h.n.blk g rfl).1;have hb:∀q,q≠g->(W.setCell ⟨g,k,none⟩ (.int .i64 x)).heap[q]?=W.heap[q]?:=fun q hq=>Below.heap_setCell W ⟨g,k,none⟩ _ q (fun e=>hq e)
 refine⟨⟨h.s.block (hb _ (by omega)),h.c.keep (fun q hq=>hb q (fun e=>h.ne q hq (by rw[e];rfl))),h.n.set_ k x,h.ne,hlt⟩,?_,?_,fun _ h=>Or.inl h,fun _ h=>Or.inl h⟩
 ·exact(Below.refl _ _).setCell (p:=⟨g,k,none⟩) (Nat.le_trans (Nat.le_of_lt hlt) hg) _
 ·exact fun q _ _ _ h2=>hb q (fun e=>h2 (by rw[e];rfl))
theorem Wf (l:List Int) (k:Nat) (d e:Int) (h:k<l.length):l.getD k d=l.getD k e:=by
 rw[List.getD_eq_getElem?_getD,List.getD_eq_getElem?_getD,List.getElem?_eq_getElem h];rfl
theorem LA {l:List Nat}{c:Nat} (h:l[i]?=some c):(Vx l).getD i 0=(c:Int):=by simp[Vx,List.getD_eq_getElem?_getD,h]
theorem IZ (base cb:Nat) (vc vn:Value) (ck nt:List Int) (B b:Nat) (v:Value) (l:List Nat) (w:World) (h:Cs base cb vc vn ck nt w) (hv:OwnL B v (Vx l) w) (hb:b<=100000) (_hck:ck.length<=100000) (hl:l.length<=256) (hl2:∀c∈l,c<256):
  Calls Tryz.prog 50 #[.pointer (some ⟨cb,0,none⟩),.int .i64 b,v] w fun e w'=>e=.returned (.bool (Pk.fr ck b l))/\w'=w:=by
 obtain⟨ad,cap,rfl,il⟩:=h.c.il;obtain⟨av,cv,rfl,iv⟩:=hv.il;rw[Vq]at iv ⊢;have c0:=(h.s 0 _ rfl).1;have HI:=hyd il;have HV:=hyd iv;clear h hv il iv;go_enter Tryz.func50,Tryz.ntmps50;go_wp2_with fail
 go_loop [12] (fun x=>∃i:Nat,i<=l.length/\x=.int .i64 i/\Hid (∀j c,j<i->l[j]?=some c->ck.getD (b+c) (-1)=-1)) (fun x=>l.length-(intOf x).toNat)
 case atStart=>exact⟨0,by omega,rfl,fun j c hj=>by omega⟩
 case round=>
  obtain⟨i,hi,rfl,HK⟩:=hrel;by_cases hlt:i<l.length
  ·have hlt':(i:Int)<(l.length:Int):=by omega
   obtain⟨c,hc⟩:∃c,l[i]?=some c:=⟨l[i],List.getElem?_eq_getElem hlt⟩;obtain⟨gv,ov,rfl,cv'⟩:=HV.out i hlt;simp only[LA hc]at cv';have hc256:=hl2 c (List.mem_of_getElem? hc);have Hc:=hyd hc;obtain⟨k,hk⟩:∃k:Nat,k=b+c:=⟨_,rfl⟩;have Hk:=hyd hk;have ik:(b:Int)+(c:Int)=(k:Int):=by omega
   have hk5:k<=200000:=by omega
   have HK2:Hid (ck.getD k (-1)=-1->∀j c,j<i+1->l[j]?=some c->ck.getD (b+c) (-1)=-1):=fun h0 j c' hj hc'=>by
    by_cases e:j=i
    ·subst e;rw[Hc.out]at hc';cases hc';rw[<-Hk.out];exact h0
    ·exact HK.out j c' (by omega) hc'
   clear hc hk;by_cases hkl:k<ck.length
   ·have hkl':(k:Int)<(ck.length:Int):=by omega
    obtain⟨g,o,rfl,cc⟩:=HI.out k hkl;simp only[Wf ck k 0 (-1) hkl]at cc;obtain⟨x,hx⟩:=nam (ck.getD k (-1));rw[<-hx]at cc;have Hx:=hyd hx;clear hx;by_cases he:x=-1
    ·have HK3:=hyd (HK2.out (by rw[<-Hx.out];exact he));have q1:(x==-1)=true:=by simpa using he
     have q2:(x != -1)=false:=by simp[he]
     clear he Hx HK HK2;go_wp2_with fail
     go_round
     case rel=>exact⟨i+1,by omega,by go_num,HK3⟩
     case measure=>simp[intOf];omega
    ·have q1:(x==-1)=false:=by simpa using he
     have q2:(x != -1)=true:=by simp[he]
     have HF:Hid (Pk.fr ck b l=false):=by
      show _=_;rw[<-Bool.not_eq_true,Pk.fr_iff];exact fun h=>he (by rw[Hx.out,Hk.out];exact h c (List.mem_of_getElem? Hc.out))
     clear he Hx HK HK2;go_wp2_with fail;go_ret;exact⟨Yx HF.out.symm,rfl⟩
   ·have hkl':¬(k:Int)<(ck.length:Int):=by omega
    have HK3:=hyd (HK2.out (Pk.getD_out _ _ _ (by omega)));clear HK HK2;go_wp2_with fail
    go_round
    case rel=>exact⟨i+1,by omega,by go_num,HK3⟩
    case measure=>simp[intOf];omega
  ·have hge:¬(i:Int)<(l.length:Int):=by omega
   have HF:Hid (Pk.fr ck b l=true):=by
    show _=_;rw[Pk.fr_iff];intro c hc;obtain⟨j,hj,hjc⟩:=List.getElem_of_mem hc;exact HK.out j c (by omega) (by rw[List.getElem?_eq_getElem hj,hjc])
   clear HK;go_wp2_with fail;go_ret;exact⟨Yx HF.out.symm,rfl⟩
theorem M4 (base cb:Nat) (vc vn:Value) (ck nt:List Int) (B:Nat) (v:Value) (l:List Nat) (w:World) (h:Cs base cb vc vn ck nt w) (hv:OwnL B v (Vx l) w) (hck:ck.length<=100000) (hl:l.length<=256) (hl2:∀c∈l,c<256):
  Calls Tryz.prog 24 #[.pointer (some ⟨cb,0,none⟩),v] w fun e w'=>e=.returned (.int .i64 (Pk.bas ck l))/\w'=w:=by
 have HF:Hid (∀b:Nat,b<=100000->Calls Tryz.prog 50 #[.pointer (some ⟨cb,0,none⟩),.int .i64 b,v] w fun e w'=>e=.returned (.bool (Pk.fr ck b l))/\w'=w):=fun b hb=>IZ base cb vc vn ck nt B b v l w h hv hb hck hl hl2
 obtain⟨ad,cap,rfl,_⟩:=h.c.il;have c0:=(h.s 0 _ rfl).1;clear h hv;go_enter Tryz.func24,Tryz.ntmps24;go_wp2_with fail
 go_loop [5] (fun x=>∃b:Nat,b<=ck.length/\x=.int .i64 b/\Hid (∀i,i<b->Pk.fr ck i l=false)) (fun x=>ck.length-(intOf x).toNat)
 case atStart=>exact⟨0,by omega,rfl,fun i hi=>by omega⟩
 case round=>
  obtain⟨b,hb,rfl,HK⟩:=hrel;by_cases hlt:b<ck.length
  ·have hlt':(b:Int)<(ck.length:Int):=by omega
   go_wp2_with fail;refine(HF.out b (by omega)).mono ?_;rintro e w' ⟨rfl,rfl⟩;by_cases hf:Pk.fr ck b l=true
   ·have HB:=hyd (Pk.bas_eq hf HK.out);rw[hf];clear hf HK;go_wp2_with fail;go_ret;exact⟨YS (by rw[HB.out]),rfl⟩
   ·have hf':Pk.fr ck b l=false:=by simpa using hf
    rw[hf'];have HK2:Hid (∀i,i<b+1->Pk.fr ck i l=false):=fun i hi=>by
     by_cases e:i=b
     ·subst e;exact hf'
     ·exact HK.out i (by omega)
    clear hf hf' HK;go_wp2_with fail
    go_round
    case rel=>exact⟨b+1,by omega,by go_num,HK2⟩
    case measure=>simp[intOf];omega
  ·have hge:¬(b:Int)<(ck.length:Int):=by omega
   have HB:Hid (Pk.bas ck l=ck.length):=by
    have hbe:b=ck.length:=by omega
    subst hbe;exact Pk.bas_eq (Pk.fr_len ck l) HK.out
   clear HK;go_wp2_with fail;go_ret;exact⟨YS (by rw[HB.out]),rfl⟩
theorem Cs.first (x:Int) (h:Cs base cb vc vn ck nt W) (hb:base<=W.heap.size):
  OwnL base vc ck (W.alloc (.cells #[.int .i64 x] 3))/\(W.alloc (.cells #[.int .i64 x] 3)).cell? ⟨W.heap.size,0,none⟩=some (.int .i64 x)/\base<=(W.alloc (.cells #[.int .i64 x] 3)).heap.size /\
  ∀w5,(W.alloc (.cells #[.int .i64 x] 3)).grownBy w5 vc.ownBlock->w5.cell? ⟨cb,0,none⟩=some vc/\w5.frozen? ⟨cb,0,none⟩=false:=by
 have hx:=box_bel W (.cells #[.int .i64 x] 3);refine⟨h.c.below hx,by rw[World.cell?_alloc_new];rfl,Nat.le_trans hb hx.size,fun w5 hg=>?_⟩;have h2:TC cb [vc,vn] w5:=(h.s.below hx).block (hg.block _ (Nat.lt_of_lt_of_le h.s.lt hx.size) (fun e=>by have:=(h.c.blk _ e.symm).1;have:=h.lt;omega));exact h2 0 _ rfl
theorem Cs.next {a:Addr}{u:Value} (x:Int) (h:Cs base cb vc vn ck nt (w5.setCell a u)) (hb:base<=w5.heap.size):
  OwnL base vn nt ((w5.setCell a u).alloc (.cells #[.int .i64 x] 3))/\((w5.setCell a u).alloc (.cells #[.int .i64 x] 3)).cell? ⟨w5.heap.size,0,none⟩=some (.int .i64 x)/\base<=((w5.setCell a u).alloc (.cells #[.int .i64 x] 3)).heap.size /\
  ∀w7,((w5.setCell a u).alloc (.cells #[.int .i64 x] 3)).grownBy w7 vn.ownBlock->w7.cell? ⟨cb,1,none⟩=some vn/\w7.frozen? ⟨cb,1,none⟩=false:=by
 have hsz:(w5.setCell a u).heap.size=w5.heap.size:=by simp[World.setCell]
 generalize w5.setCell a u=W at *;have hx:=box_bel W (.cells #[.int .i64 x] 3);refine⟨h.n.below hx,by rw[<-hsz,World.cell?_alloc_new];rfl,Nat.le_trans (by omega) hx.size,fun w7 hg=>?_⟩;have h2:TC cb [vc,vn] w7:=(h.s.below hx).block (hg.block _ (Nat.lt_of_lt_of_le h.s.lt hx.size) (fun e=>by have:=(h.n.blk _ e.symm).1;have:=h.lt;omega));exact h2 1 _ rfl
def Jj (w:World) (a:Addr):Nat:=match w.cell? a with|some (.slice _ n _)=>n|_=>0
theorem NB {a:Addr}{d:Option Addr}{c:Nat} (h:w.cell? a=some (.slice d n c)):Jj w a=n:=by unfold Jj;rw[h]
theorem NW (l:List Int) (j:Nat):l++List.replicate j (-1)++[-1]=l++List.replicate (j+1) (-1):=by
 rw[List.append_assoc,List.replicate_succ']
theorem Ih (base cb:Nat) (vc vn:Value) (ck nt:List Int) (k:Nat) (s x:Int) (w:World) (h:Cs base cb vc vn ck nt w) (he:ck.length=nt.length) (hk:k<=100000) (hck:ck.length<=100000) (hbw:base<=w.heap.size):
  Calls Tryz.prog 26 #[.pointer (some ⟨cb,0,none⟩),.int .i64 k,.int .i64 s,.int .i64 x] w fun e w'=>e=.returned (.tuple #[])/\∃vc' vn',Cs base cb vc' vn' (Pk.put ck k s) (Pk.put nt k x) w'/\Xx cb vc vn vc' vn' w w':=by
 have H0:=hyd h;have He:=hyd he;clear h;go_enter Tryz.func26,Tryz.ntmps26;go_wp2_with fail
 go_loopw [] (fun w'=>∃(j:Nat) (vc' vn':Value),j<=k+1-ck.length/\Cs base cb vc' vn' (ck++List.replicate j (-1)) (nt++List.replicate j (-1)) w'/\Xx cb vc vn vc' vn' w w') (fun w'=>k+1-Jj w' ⟨cb,0,none⟩)
 case atStart=>exact⟨0,vc,vn,by omega,by simpa using H0.out,Xx.refl _ _ _ _⟩
 case round=>
  obtain⟨j,vc',vn',hj,S,P⟩:=hrel;obtain⟨L,hL⟩:=nam (ck++List.replicate j (-1));obtain⟨M,hM⟩:=nam (nt++List.replicate j (-1));have hLl:L.length=ck.length+j:=by rw[hL];simp
  have hMl:M.length=ck.length+j:=by rw[hM,he];simp
  rw[<-hL,<-hM]at S;have HL:=hyd hL;have HM:=hyd hM;have hLb:L.length<=200002:=by omega
  have hMb:M.length<=200002:=by omega
  have hLk:L.length<=k->j+1<=k+1-ck.length:=by omega
  have hLj:¬L.length<=k->j=k+1-ck.length:=by omega
  have hkM:¬L.length<=k->k<M.length:=by omega
  have HLk:=hyd hLk;have HLj:=hyd hLj;have HkM:=hyd hkM;clear hL hM H0 he hLl hMl hLk hLj hkM;obtain⟨ad,cp,rfl,_⟩:=S.c.il;obtain⟨an,cn,rfl,_⟩:=S.n.il;have c0:=(S.s 0 _ rfl).1;have c1:=(S.s 1 _ rfl).1;have hbr:=Nat.le_trans hbw P.bel.size;have hmes:=NB c0;have Hmes:=hyd hmes;clear hmes;by_cases hlt:L.length<=k
  ·have hlt':(L.length:Int)<=(k:Int):=by omega
   obtain⟨hO1,hnw,hbs,hk1⟩:=S.first (-1) hbr;have HK1:=hyd hk1;have HX:Hid (∀g cap w5,OwnL base (.slice (some ⟨g,0,none⟩) (L.length+1) cap) (L++[-1]) w5->(wr.alloc (.cells #[.int .i64 (-1)] 3)).grownBy w5 (Value.slice ad L.length cp).ownBlock->((Value.slice ad L.length cp).ownBlock=some g\/g=(wr.alloc (.cells #[.int .i64 (-1)] 3)).heap.size) ->
     Cs base cb (.slice (some ⟨g,0,none⟩) (L.length+1) cap) (.slice an M.length cn) (L++[-1]) M (w5.setCell ⟨cb,0,none⟩ (.slice (some ⟨g,0,none⟩) (L.length+1) cap))/\Xx cb vc vn (.slice (some ⟨g,0,none⟩) (L.length+1) cap) (.slice an M.length cn) w (w5.setCell ⟨cb,0,none⟩ (.slice (some ⟨g,0,none⟩) (L.length+1) cap))):=fun g cap w5 h1 h2 h3=>by
    have h:=S.pushC rfl h1 h2 h3;exact⟨h.1,P.trans h.2⟩
   clear S P hk1;go_wp2_with (first
    |(at_builtin;refine wpList_append_int (by rfl) _ _ (by rfl) base (.slice ad L.length cp) L (by rfl) hO1 (by omega) wr.heap.size (-1) (by rfl) hnw hbs _ rfl ?_;intro g cap w5 hO5 hgrow hgb hl5;obtain⟨c5,c5f⟩:=HK1.out w5 hgrow;obtain⟨S5,P5⟩:=HX.out g cap w5 hO5 hgrow hgb;have c6:=(S5.s 1 _ rfl).1;obtain⟨hO6,hn6,hb6,hk6⟩:=S5.next (-1) (Nat.le_trans (hO5.blk g rfl).1 (Nat.le_of_lt hl5));have HK6:Hid (∀w7,((w5.setCell ⟨cb,0,none⟩ (.slice (some ⟨g,0,none⟩) (L.length+1) cap)).alloc (.cells #[.int .i64 (-1)] 3)).grownBy w7 (Value.slice an M.length cn).ownBlock->w7.cell? ⟨cb,1,none⟩=some (.slice an M.length cn)/\w7.frozen? ⟨cb,1,none⟩=false):=hk6;clear hk6 hO1)
    |(at_builtin;refine wpList_append_int (by rfl) _ _ (by rfl) base (.slice an M.length cn) M (by rfl) hO6 (by omega) w5.heap.size (-1) (by rfl) hn6 hb6 _ rfl ?_;intro g7 cap7 w7 hO7 hgrow7 hgb7 hl7;obtain⟨c7,c7f⟩:=HK6.out w7 hgrow7))
   obtain⟨S7,P7⟩:=S5.pushN rfl hO7 hgrow7 hgb7;have P8:=P5.trans P7;have hm8:=NB (S7.s 0 _ rfl).1;rw[HL.out,HM.out,NW,NW]at S7;rw[<-HL.out,<-HM.out]at S7;go_roundw
   case rel=>exact⟨j+1,_,_,HLk.out hlt,S7,P8⟩
   case measure=>
    rw[hm8,Hmes.out];omega
  ·have hge:¬(L.length:Int)<=(k:Int):=by omega
   have hjk:=HLj.out hlt;have hkm0:=HkM.out hlt;have HP1:Hid (L.set k s=Pk.put ck k s):=by show _=_;rw[HL.out,hjk];rfl
   have HP2:Hid (M.set k x=Pk.put nt k x):=by show _=_;rw[HM.out,hjk,He.out];rfl
   obtain⟨g,cg,hg⟩:=S.c.some_ (by omega);obtain⟨g',cg',hg'⟩:=S.n.some_ (by omega);cases hg;cases hg';obtain⟨k1,k1f⟩:=S.c.at_ k (by omega);obtain⟨S1,P1⟩:=S.setC k s;have d1:=(S1.s 1 _ rfl).1;obtain⟨k2,k2f⟩:=S1.n.at_ k (by omega);obtain⟨S2,P2⟩:=S1.setN k x;have hkl:(k:Int)<(L.length:Int):=by omega
   have hkm:(k:Int)<(M.length:Int):=by omega
   have P3:=(P.trans P1).trans P2;rw[HP1.out,HP2.out]at S2;have HS2:=hyd S2;have HP3:=hyd P3;clear S S1 P1 S2 P2 P3 P HP1 HP2 Hmes hjk;go_wp2_with fail;go_end0;exact⟨rfl,_,_,HS2.out,HP3.out⟩
end Go.Proofs.YtoaaklhpmhjhkabGreat
