import Derived.Test.YtoaaklhpmhjhkaaGreatC03
import Derived.Test.YtoaaklhpmhjhkaaGreatC16
set_option maxRecDepth 100000
set_option maxHeartbeats 4000000
set_option linter.all false
namespace Go.Proofs.YtoaaklhpmhjhkaaGreat
open Go.RowKit
open Bm
structure Rw (b n:Nat) (ad:Option Addr) (nn cap:Nat) (nx:Nat->Int) (w:World):Prop where
 c0:w.cell? ⟨b,0,none⟩=some (.int .i64 n)
 c1:w.cell? ⟨b,1,none⟩=some (.slice ad nn cap)
 il:IL ad nx nn w
variable {ck nt:List Int}{b base c cap cb g i m n:Nat}{ad:Option Addr}{v vc vc' vn vn':Value}{W w w' w'' w5:World}
theorem Rw.below {z:Nat}{nx:Nat->Int} (h:Rw b n ad z cap nx w) (y:Bl w w'):Rw b n ad z cap nx w':=by
 have a:=Ze w _ h.c0;have e:∀k,w'.cell? (a_ b k)=w.cell? (a_ b k):=λk=>y.cell (p:=(a_ b k)) a
 exact⟨by rw[e];exact h.c0,by rw[e];exact h.c1,h.il.below y⟩
def CB (n nn:Nat) (s:Int):Prop:=s=-1\/∃m:Nat,s=m/\m<=96/\m*n+n<=nn
theorem Qv (b n:Nat) (ad:Option Addr) (y cap:Nat) (nx:Nat->Int) (s:Int) (c:Nat) (w:World) (h:Rw b n ad y cap nx w) (J:n<=256) (z:y<=24576) (hs:CB n y s) (H:c<n):
  Cp 74 #[pT b,I6 s,I6 c] w λe w'=>e=.returned (I6 (Pk.ld nx n s c))/\Bl w w':=by
 rcases hs with rfl|⟨m,rfl,j,a⟩
 ·rw[Pk.ld_none];clear h;go_enter Tryz.func74,Tryz.ntmps74;go_wp2;go_ret;exact⟨rfl,Zk _ _⟩
 rw[Pk.ld_nat];obtain⟨p,d⟩:∃p:Nat,p=m*n:=⟨_,rfl⟩;rw[<-d]at a ⊢;have q:(m:Int)*(n:Int)=(p:Int):=by rw[d];simp
 clear d;obtain⟨k,f⟩:∃k:Nat,k=p+c:=⟨_,rfl⟩;rw[<-f];have l:(p:Int)+(c:Int)=(k:Int):=by omega
 have⟨hkn,hkn'⟩:k<y/\(k:Int)<y:=by omega
 obtain⟨g,o,rfl,ck⟩:=h.il k hkn;have c0:=h.c0;have c1:=h.c1;have r:((m:Int)==-1)=false:=by simp
 have i:p<=24576:=by omega
 clear h f;go_enter Tryz.func74,Tryz.ntmps74;go_wp2
 go_quiet (fail)
 go_wp2;go_ret;exact⟨rfl,Ve _ _ _⟩
def Xm (l:List Nat):List Int:=l.map λ(a:Nat)=>(a:Int)
theorem Xy (l:List Nat):(Xm l).length=l.length:=by simp[Xm]
theorem Td (l r:List Nat):Xm (l++r)=Xm l++Xm r:=by simp[Xm]
theorem Fn (b n:Nat) (ad:Option Addr) (Y cap:Nat) (nx:Nat->Int) (s d:Int) (w:World) (h:Rw b n ad Y cap nx w) (hn:n<=256) (Z:Y<=24576) (hs:CB n Y s) (hd:CB n Y d):
  Cp 136 #[pT b,I6 s,I6 d] w λe w'=>∃v,e=.returned v/\OwnL w.heap.size v (Xm (Pk.dif nx n s d n)) w'/\Bl w w':=by
 have L:Hid (∀w',Bl w w'->w'.cell? (a_ b 0)=some (I6 n)):=λw' l=>(h.below l).c0
 have HS:Hid (∀(c:Nat) (w':World),c<n->Bl w w'->Cp 74 #[pT b,I6 s,I6 c] w' λe w''=>e=.returned (I6 (Pk.ld nx n s c))/\Bl w' w''):=λc w' F l=>Qv b n ad Y cap nx s c w' (h.below l) hn Z hs F
 have K:Hid (∀(c:Nat) (w':World),c<n->Bl w w'->Cp 74 #[pT b,I6 d,I6 c] w' λe w''=>e=.returned (I6 (Pk.ld nx n d c))/\Bl w' w''):=λc w' F l=>Qv b n ad Y cap nx d c w' (h.below l) hn Z hd F
 go_enter Tryz.func136,Tryz.ntmps136;go_wp2_with fail
 go_loopw [7,8] (λv x w'=>∃k:Nat,k<=n/\x=I6 k/\OwnL w.heap.size v (Xm (Pk.dif nx n s d k)) w'/\Bl w w') (λ_ x _=>n-(intOf x).toNat)
 ·exact⟨0,by omega,rfl,OwnL.nil _ _,Zk _ _⟩
 obtain⟨k,R,rfl,D,m⟩:=hrel;have c0:=L.out wr m;by_cases A:k<n
 ·have H:(k:Int)<n:=by omega
  go_wp2_with fail;refine(HS k _ A m).mono ?_;rintro e w1 ⟨rfl,t⟩;have a:=m.trans (t.mono m.size);have E:=D.below t;go_wp2_with fail;refine(K k _ A a).mono ?_;rintro e w2 ⟨rfl,u⟩;have f:=a.trans (u.mono a.size);have i:=E.below u;have M:=Pk.dif_len nx n s d k;by_cases B:Pk.ld nx n s k=Pk.ld nx n d k
  ·have C:=Pk.dif_eq B;rw[<-C]at i;have Q:(Pk.ld nx n s k != Pk.ld nx n d k)=false:=by simp[B]
   go_wp2_with fail;go_roundw
   ·exact⟨k+1,by omega,by go_num,i,f⟩
   simp[intOf];omega
  have J:=hyd (Pk.dif_ne B);have Q:(Pk.ld nx n s k != Pk.ld nx n d k)=true:=by simp[B]
  have I:=box_bel w2 (.cells #[I6 (k:Int)] 3);have p:=i.below I;have o:=f.trans (I.mono f.size);have z:=p.blk;have G:(w2.alloc (.cells #[I6 (k:Int)] 3)).cell? (a_ w2.heap.size 0)=some (I6 (k:Int)):=by rw[Zm];rfl
  have y:=o.size;go_wp2_with (first|(at_builtin;refine wpList_append_int (by rfl) _ _ (by rfl) w.heap.size u7 (Xm (Pk.dif nx n s d k)) (by rfl) p (by rw[Xy];omega) w2.heap.size k (by rfl) G y _ rfl ?_;intro g cap w5 r j N O));have C:Xm (Pk.dif nx n s d k)++[(k:Int)]=Xm (Pk.dif nx n s d (k+1)):=by rw[J.out,Td];rfl
  rw[C]at r;go_roundw
  ·exact⟨k+1,by omega,by go_num,r,o.grown j y (λq P=>(z q P).1)⟩
  simp[intOf];omega
 have⟨hge,hkn⟩:¬(k:Int)<n/\k=n:=by omega
 go_wp2_with fail;go_ret;refine⟨u7,rfl,?_,m⟩;rw[hkn]at D;exact D
theorem GQ (b n:Nat) (ad:Option Addr) (Y cap:Nat) (nx:Nat->Int) (s:Nat) (w:World) (h:Rw b n ad Y cap nx w) (hn:n<=256) (Z:Y<=24576) (hs:s<=96) (aa:s*n+n<=Y):
  Cp 72 #[pT b,I6 s] w λe w'=>∃v,e=.returned (.tuple #[I6 (Pk.df nx n s),v])/\OwnL w.heap.size v (Xm (Pk.own nx n s)) w'/\Bl w w':=by
 have B:Hid (∀(d:Int) (w':World),(d=-1\/∃m:Nat,d=m/\m<s)->Bl w w'->Cp 136 #[pT b,I6 s,I6 d] w' λe w''=>∃v,e=.returned v/\OwnL w'.heap.size v (Xm (Pk.dif nx n s d n)) w''/\Bl w' w''):=λd w' o E=>by
  refine Fn b n ad Y cap nx s d w' (h.below E) hn Z (Or.inr ⟨s,rfl,hs,aa⟩) ?_;rcases o with o|⟨m,F,G⟩
  ·exact Or.inl o
  refine Or.inr ⟨m,F,by omega,?_⟩;have:m*n<=s*n:=ZQ n (by omega);omega
 go_enter Tryz.func72,Tryz.ntmps72;go_wp2_with fail;refine(B (-1) _ (Or.inl rfl) (Zk _ _)).mono ?_;rintro e w1 ⟨v1,rfl,r,p⟩;have i:=r;go_wp2
 go_loopw [6,7,8] (λx v y w'=>∃d:Nat,d<=s/\y=I6 d/\x=I6 (Pk.near nx n s d).1/\OwnL w.heap.size v (Xm (Pk.near nx n s d).2) w'/\Bl w w') (λ_ _ y _=>s-(intOf y).toNat)
 ·exact⟨0,by omega,rfl,rfl,i,p⟩
 obtain⟨d,o,rfl,rfl,q,c⟩:=hrel;obtain⟨H,J,k,_⟩:=q.il;rw[Xy]at k;subst k;by_cases A:d<s
 ·have D:(d:Int)<s:=by omega
  go_wp2_with fail;refine(B d _ (Or.inr ⟨d,rfl,A⟩) c).mono ?_;rintro e w2 ⟨v2,rfl,t,f⟩;have u:=q.below f;have g:=c.trans (f.mono c.size);have j:=t.mono c.size;obtain⟨I,K,l,_⟩:=j.il;rw[Xy]at l;subst l;by_cases C:(Pk.dif nx n s d n).length<(Pk.near nx n s d).2.length
  ·have a:=hyd (Pk.near_lt C);have z:((Pk.dif nx n s d n).length:Int)<((Pk.near nx n s d).2.length:Int):=by omega
   go_wp2;go_roundw
   ·exact⟨d+1,by omega,by go_num,by rw[a.out],by rw[a.out];exact j,g⟩
   simp[intOf];omega
  have a:=hyd (Pk.near_ge C);have z:¬((Pk.dif nx n s d n).length:Int)<((Pk.near nx n s d).2.length:Int):=by omega
  go_wp2;go_roundw
  ·exact⟨d+1,by omega,by go_num,by rw[a.out],by rw[a.out];exact u,g⟩
  simp[intOf];omega
 have⟨hge,hds⟩:¬(d:Int)<s/\d=s:=by omega
 subst hds;go_wp2;go_ret2;exact⟨_,rfl,q,c⟩
theorem Bm.OwnL.at_ {l:List Int} (h:OwnL base (sL g m cap) l w) (k:Nat) (y:k<l.length):w.cell? (a_ g k)=some (I6 (l.getD k 0))/\w.frozen? (a_ g k)=false:=by
 rcases h.2 with ⟨h0,_⟩|⟨b,a,d,h0,h1,h2,h3,f,i,j⟩
 ·cases h0
 have e:b=g:=by cases h0;rfl
 subst e;have c:=h.cells (g:=b) rfl k (I6 (l.getD k 0)) (by simp[ints,Zf,y]);rw[Addr.add_lit,Zn]at c;refine⟨c,?_⟩;simp[World.frozen?,h2]
theorem Bm.OwnL.some_ {l:List Int} (h:OwnL base v l w) (y:0<l.length):∃g cap,v=sL g l.length cap:=by
 rcases h.2 with ⟨rfl,h0⟩|⟨g,cap,a,rfl,_⟩
 ·omega
 exact⟨g,cap,rfl⟩
theorem Bm.OwnL.set_ {l:List Int} (h:OwnL base (sL g l.length cap) l w) (k:Nat) (x:Int):OwnL base (sL g l.length cap) (l.set k x) (w.setCell (a_ g k) (I6 x)):=by
 rcases h.2 with ⟨h0,_⟩|⟨c,a,b,h0,h1,h2,h3,f,i,d⟩
 ·cases h0
 have e:c=g:=by cases h0;rfl
 have e2:a=cap:=by cases h0;rfl
 subst e;subst e2;refine⟨by simp[ints],Or.inr ⟨c,a,b.setIfInBounds k (I6 x),by simp,h1,?_,by simpa using h3,f,by simpa using i,?_⟩⟩
 ·have j:=(Array.getElem?_eq_some_iff.1 h2).1;unfold World.setCell;simp only[Array.getElem?_modify];rw[h2];rfl
 simp only[List.length_set,Nat.mul_one]at d ⊢;rw[Array.toList_setIfInBounds,List.take_set,d];simp[ints,List.map_set]
structure Cs (base cb:Nat) (vc vn:Value) (ck nt:List Int) (w:World):Prop where
 s:TC cb [vc,vn] w
 c:OwnL base vc ck w
 n:OwnL base vn nt w
 ne:∀k,vc.ownBlock=some k->vn.ownBlock≠some k
 lt:cb<base
theorem Cs.below (h:Cs base cb vc vn ck nt w) (y:Bl w w'):Cs base cb vc vn ck nt w':=
 ⟨h.s.below y,h.c.below y,h.n.below y,h.ne,h.lt⟩
theorem Cs.keep (h:Cs base cb vc vn ck nt w) (h0:w'.heap[cb]?=w.heap[cb]?) (h1:∀k,vc.ownBlock=some k->w'.heap[k]?=w.heap[k]?) (h2:∀k,vn.ownBlock=some k->w'.heap[k]?=w.heap[k]?):Cs base cb vc vn ck nt w':=
 ⟨h.s.block h0,h.c.keep h1,h.n.keep h2,h.ne,h.lt⟩
structure WN (cb:Nat) (vc vn vc' vn':Value) (w w':World):Prop where
 bel:Below cb w w'
 kept:∀q,q<w.heap.size->q≠cb->vc.ownBlock≠some q->vn.ownBlock≠some q->w'.heap[q]?=w.heap[q]?
 oc:∀q,vc'.ownBlock=some q->vc.ownBlock=some q\/w.heap.size<=q
 on:∀q,vn'.ownBlock=some q->vn.ownBlock=some q\/w.heap.size<=q
theorem WN.refl (cb:Nat) (vc vn:Value) (w:World):WN cb vc vn vc vn w w:=⟨Zk _ _,λ_ _ _ _ _=>rfl,λ_ h=>Or.inl h,λ_ h=>Or.inl h⟩
theorem WN.trans {y z:Value} (h:WN cb vc vn vc' vn' w w') (H:WN cb vc' vn' y z w' w''):WN cb vc vn y z w w'':=by
 refine⟨h.bel.trans H.bel,λq a h0 h1 h2=>?_,λq a=>?_,λq a=>?_⟩
 ·have hz:=h.bel.size;rw[H.kept q (by omega) h0 (λe=>?_) (λe=>?_),h.kept q a h0 h1 h2]
  ·rcases h.oc q e with e|e
   ·exact h1 e
   omega
  rcases h.on q e with e|e
  ·exact h2 e
  omega
 ·have hz:=h.bel.size;rcases H.oc q a with e|e
  ·exact h.oc q e
  exact Or.inr (by omega)
 have hz:=h.bel.size;rcases H.on q a with e|e
 ·exact h.on q e
 exact Or.inr (by omega)
theorem Cs.pushC {base cb:Nat}{vc vn:Value}{ck nt:List Int}{W W1 w5:World}{x:Int}{g cap:Nat}{ob:Obj} (h:Cs base cb vc vn ck nt W) (y:W1=W.alloc ob)
  (J:OwnL base (sL g (ck.length+1) cap) (ck++[x]) w5) (H:W1.grownBy w5 vc.ownBlock) (z:vc.ownBlock=some g\/g=W1.heap.size):
  Cs base cb (sL g (ck.length+1) cap) vn (ck++[x]) nt (w5.setCell (a_ cb 0) (sL g (ck.length+1) cap))/\WN cb vc vn (sL g (ck.length+1) cap) vn W (w5.setCell (a_ cb 0) (sL g (ck.length+1) cap)):=by
 have i:=h.lt;have f:=h.s.lt;have x1:Bl W W1:=by rw[y];exact box_bel _ _
 have o:W1.heap.size=W.heap.size+1:=by rw[y];simp
 have k1:=h.below x1;have d:∀k,k≠cb->(w5.setCell (a_ cb 0) (sL g (ck.length+1) cap)).heap[k]?=w5.heap[k]?:=λk a=>Zq w5 (a_ cb 0) _ k (λe=>a e)
 have m:base<=g:=(J.blk g rfl).1;have j:=h.c.blk;have l:=h.n.blk;refine⟨⟨?_,?_,?_,?_,i⟩,?_,?_,?_,?_⟩
 ·exact(k1.s.block (H.block _ (by omega) (λe=>by have:=(j _ e.symm).1;omega))).set 0 (by simp) _
 ·exact J.keep (λk a=>d k (by cases a;show g≠_;omega))
 ·exact(k1.n.grown H (λk a e=>h.ne k e a)).keep (λk a=>d k (by have:=(l k a).1;omega))
 ·intro k a e;have e2:g=k:=Zh a;rcases z with h1|h1
  ·rw[e2]at h1;exact h.ne k h1 e
  have:=(l k e).2;omega
 ·exact((x1.mono (ZM f)).grown H (by omega) (λq b=>by have:=(j q b).1;omega)).setCell (p:=(a_ cb 0)) (Zg _) _
 ·intro q b h0 h1 h2;rw[d q h0,H.block q (by omega) (λe=>h1 e.symm),x1.block q b]
 ·intro q b;have e2:g=q:=Zh b;rcases z with h1|h1
  ·left;rw[h1,e2]
  right;omega
 exact λq b=>Or.inl b
theorem Cs.pushN {base cb:Nat}{vc vn:Value}{ck nt:List Int}{W W1 w5:World}{x:Int}{g cap:Nat}{ob:Obj} (h:Cs base cb vc vn ck nt W) (y:W1=W.alloc ob)
  (J:OwnL base (sL g (nt.length+1) cap) (nt++[x]) w5) (H:W1.grownBy w5 vn.ownBlock) (z:vn.ownBlock=some g\/g=W1.heap.size):
  Cs base cb vc (sL g (nt.length+1) cap) ck (nt++[x]) (w5.setCell (a_ cb 1) (sL g (nt.length+1) cap))/\WN cb vc vn vc (sL g (nt.length+1) cap) W (w5.setCell (a_ cb 1) (sL g (nt.length+1) cap)):=by
 have i:=h.lt;have f:=h.s.lt;have x1:Bl W W1:=by rw[y];exact box_bel _ _
 have o:W1.heap.size=W.heap.size+1:=by rw[y];simp
 have k1:=h.below x1;have d:∀k,k≠cb->(w5.setCell (a_ cb 1) (sL g (nt.length+1) cap)).heap[k]?=w5.heap[k]?:=λk a=>Zq w5 (a_ cb 1) _ k (λe=>a e)
 have m:base<=g:=(J.blk g rfl).1;have j:=h.c.blk;have l:=h.n.blk;refine⟨⟨?_,?_,?_,?_,i⟩,?_,?_,?_,?_⟩
 ·exact(k1.s.block (H.block _ (by omega) (λe=>by have:=(l _ e.symm).1;omega))).set 1 (by simp) _
 ·exact(k1.c.grown H (λk a e=>h.ne k a e)).keep (λk a=>d k (by have:=(j k a).1;omega))
 ·exact J.keep (λk a=>d k (by cases a;show g≠_;omega))
 ·intro k a e;have e2:g=k:=Zh e;rcases z with h1|h1
  ·rw[e2]at h1;exact h.ne k a h1
  have:=(j k a).2;omega
 ·exact((x1.mono (ZM f)).grown H (by omega) (λq b=>by have:=(l q b).1;omega)).setCell (p:=(a_ cb 1)) (Zg _) _
 ·intro q b h0 h1 h2;rw[d q h0,H.block q (by omega) (λe=>h2 e.symm),x1.block q b]
 ·exact λq b=>Or.inl b
 intro q b;have e2:g=q:=Zh b;rcases z with h1|h1
 ·left;rw[h1,e2]
 right;omega
theorem Cs.setC (h:Cs base cb (sL g ck.length cap) vn ck nt W) (k:Nat) (x:Int):
  Cs base cb (sL g ck.length cap) vn (ck.set k x) nt (W.setCell (a_ g k) (I6 x))/\WN cb (sL g ck.length cap) vn (sL g ck.length cap) vn W (W.setCell (a_ g k) (I6 x)):=by
 have a:=h.lt;have f:=(h.c.blk g rfl).1;have b:∀q,q≠g->(W.setCell (a_ g k) (I6 x)).heap[q]?=W.heap[q]?:=λq d=>Zq W (a_ g k) _ q (λe=>d e)
 refine⟨⟨h.s.block (b _ (by omega)),h.c.set_ k x,h.n.keep (λq d=>b q (λe=>h.ne g rfl (by rw[<-e];exact d))),h.ne,a⟩,?_,?_,λ_ h=>Or.inl h,λ_ h=>Or.inl h⟩
 ·exact(Zk _ _).setCell (p:=(a_ g k)) (ZJ (ZM a) f) _
 exact λq _ _ h1 _=>b q (λe=>h1 (by rw[e];rfl))
theorem Cs.setN (h:Cs base cb vc (sL g nt.length cap) ck nt W) (k:Nat) (x:Int):
  Cs base cb vc (sL g nt.length cap) ck (nt.set k x) (W.setCell (a_ g k) (I6 x))/\WN cb vc (sL g nt.length cap) vc (sL g nt.length cap) W (W.setCell (a_ g k) (I6 x)):=by
 have a:=h.lt;have f:=(h.n.blk g rfl).1;have b:∀q,q≠g->(W.setCell (a_ g k) (I6 x)).heap[q]?=W.heap[q]?:=λq d=>Zq W (a_ g k) _ q (λe=>d e)
 refine⟨⟨h.s.block (b _ (by omega)),h.c.keep (λq d=>b q (λe=>h.ne q d (by rw[e];rfl))),h.n.set_ k x,h.ne,a⟩,?_,?_,λ_ h=>Or.inl h,λ_ h=>Or.inl h⟩
 ·exact(Zk _ _).setCell (p:=(a_ g k)) (ZJ (ZM a) f) _
 exact λq _ _ _ h2=>b q (λe=>h2 (by rw[e];rfl))
theorem Su (l:List Int) (k:Nat) (d e:Int) (h:k<l.length):l.getD k d=l.getD k e:=by
 rw[Zf,Zf,Zd h];rfl
theorem QW {l:List Nat} (h:l[i]?=some c):(Xm l).getD i 0=(c:Int):=by simp[Xm,Zf,h]
theorem EH (base cb:Nat) (vc vn:Value) (ck nt:List Int) (B b:Nat) (v:Value) (l:List Nat) (w:World) (h:Cs base cb vc vn ck nt w) (Z:OwnL B v (Xm l) w) (hb:b<=100000) (_hck:ck.length<=100000) (hl:l.length<=256) (Y:∀c∈l,c<256):
  Cp 137 #[pT cb,I6 b,v] w λe w'=>e=.returned (.bool (Pk.fr ck b l))/\w'=w:=by
 obtain⟨ad,cap,rfl,il⟩:=h.c.il;obtain⟨S,T,rfl,F⟩:=Z.il;rw[Xy]at F ⊢;have c0:=(h.s 0 _ rfl).1;have L:=hyd il;have M:=hyd F;clear h Z il F;go_enter Tryz.func137,Tryz.ntmps137;go_wp2
 go_loop [12] (λx=>∃i:Nat,i<=l.length/\x=I6 i/\Hid (∀j c,j<i->l[j]?=some c->ck.getD (b+c) (-1)=-1)) (λx=>l.length-(intOf x).toNat)
 ·exact⟨0,by omega,rfl,λj c C=>by omega⟩
 obtain⟨i,V,rfl,n⟩:=hrel;by_cases t:i<l.length
 ·have K:(i:Int)<(l.length:Int):=by omega
  obtain⟨c,p⟩:∃c,l[i]?=some c:=⟨l[i],Zd t⟩;obtain⟨U,X,rfl,z⟩:=M.out i t;simp only[QW p]at z;have A:=Y c (List.mem_of_getElem? p);have G:=hyd p;obtain⟨k,J⟩:∃k:Nat,k=b+c:=⟨_,rfl⟩;have H:=hyd J;have W:(b:Int)+(c:Int)=(k:Int):=by omega
  have P:k<=200000:=by omega
  have a:Hid (ck.getD k (-1)=-1->∀j c,j<i+1->l[j]?=some c->ck.getD (b+c) (-1)=-1):=λh0 j N C m=>by
   by_cases e:j=i
   ·subst e;rw[G.out]at m;cases m;rw[<-H.out];exact h0
   exact n j N (by omega) m
  clear p J;by_cases q:k<ck.length
  ·have r:(k:Int)<(ck.length:Int):=by omega
   obtain⟨g,o,rfl,I⟩:=L.out k q;simp only[Su ck k 0 (-1) q]at I;obtain⟨x,E⟩:=nam (ck.getD k (-1));rw[<-E]at I;have u:=hyd E;clear E;by_cases d:x=-1
   ·have f:=hyd (a.out (by rw[<-u.out];exact d));have Q:(x==-1)=true:=by simpa using d
    have R:(x != -1)=false:=by simp[d]
    clear d u n a;go_wp2
    go_round
    ·exact⟨i+1,by omega,by go_num,f⟩
    simp[intOf];omega
   have Q:(x==-1)=false:=by simpa using d
   have R:(x != -1)=true:=by simp[d]
   have y:Hid (Pk.fr ck b l=false):=by
    show _=_;rw[<-Bool.not_eq_true,Pk.fr_iff];exact λh=>d (by rw[u.out,H.out];exact h c (List.mem_of_getElem? G.out))
   clear d u n a;go_wp2;go_ret;exact⟨YN y.out.symm,rfl⟩
  have r:¬(k:Int)<(ck.length:Int):=by omega
  have f:=hyd (a (Pk.getD_out _ _ _ (by omega)));clear n a;go_wp2
  go_round
  ·exact⟨i+1,by omega,by go_num,f⟩
  simp[intOf];omega
 have O:¬(i:Int)<(l.length:Int):=by omega
 have y:Hid (Pk.fr ck b l=true):=by
  show _=_;rw[Pk.fr_iff];intro c p;obtain⟨j,C,D⟩:=List.getElem_of_mem p;exact n j c (by omega) (by rw[Zd C,D])
 clear n;go_wp2;go_ret;exact⟨YN y.out.symm,rfl⟩
theorem JJ (base cb:Nat) (vc vn:Value) (ck nt:List Int) (B:Nat) (v:Value) (l:List Nat) (w:World) (h:Cs base cb vc vn ck nt w) (J:OwnL B v (Xm l) w) (y:ck.length<=100000) (H:l.length<=256) (z:∀c∈l,c<256):
  Cp 73 #[pT cb,v] w λe w'=>e=.returned (I6 (Pk.bas ck l))/\w'=w:=by
 have o:Hid (∀b:Nat,b<=100000->Cp 137 #[pT cb,I6 b,v] w λe w'=>e=.returned (.bool (Pk.fr ck b l))/\w'=w):=λb m=>EH base cb vc vn ck nt B b v l w h J m y H z
 obtain⟨ad,cap,rfl,_⟩:=h.c.il;have c0:=(h.s 0 _ rfl).1;go_enter Tryz.func73,Tryz.ntmps73;go_wp2
 go_loop [5] (λx=>∃b:Nat,b<=ck.length/\x=I6 b/\Hid (∀i,i<b->Pk.fr ck i l=false)) (λx=>ck.length-(intOf x).toNat)
 ·exact⟨0,by omega,rfl,λi q=>by omega⟩
 obtain⟨b,m,rfl,f⟩:=hrel;by_cases r:b<ck.length
 ·have n:(b:Int)<(ck.length:Int):=by omega
  go_wp2_with fail;refine(o b (by omega)).mono ?_;rintro e w' ⟨rfl,rfl⟩;by_cases k:Pk.fr ck b l=true
  ·have d:=hyd (Pk.bas_eq k f.out);rw[k];go_wp2;go_ret;exact⟨YY (by rw[d.out]),rfl⟩
  have a:Pk.fr ck b l=false:=by simpa using k
  rw[a];have g:Hid (∀i,i<b+1->Pk.fr ck i l=false):=λi q=>by
   by_cases e:i=b
   ·subst e;exact a
   exact f i (by omega)
  go_wp2
  go_round
  ·exact⟨b+1,by omega,by go_num,g⟩
  simp[intOf];omega
 have p:¬(b:Int)<(ck.length:Int):=by omega
 have d:Hid (Pk.bas ck l=ck.length):=by
  have j:b=ck.length:=by omega
  subst j;exact Pk.bas_eq (Pk.fr_len ck l) f.out
 go_wp2;go_ret;exact⟨YY (by rw[d.out]),rfl⟩
theorem Cs.first (x:Int) (h:Cs base cb vc vn ck nt W) (y:base<=W.heap.size):
  OwnL base vc ck (W.alloc (.cells #[I6 x] 3))/\(W.alloc (.cells #[I6 x] 3)).cell? (a_ W.heap.size 0)=some (I6 x)/\base<=(W.alloc (.cells #[I6 x] 3)).heap.size /\
  ∀w5,(W.alloc (.cells #[I6 x] 3)).grownBy w5 vc.ownBlock->w5.cell? (a_ cb 0)=some vc/\w5.frozen? (a_ cb 0)=false:=by
 have a:=box_bel W (.cells #[I6 x] 3);refine⟨h.c.below a,by rw[Zm];rfl,ZJ y a.size,λw5 b=>?_⟩;have h2:TC cb [vc,vn] w5:=(h.s.below a).block (b.block _ (ZH h.s.lt a.size) (λe=>by have:=(h.c.blk _ e.symm).1;have:=h.lt;omega));exact h2 0 _ rfl
theorem Cs.next {a:Addr}{u:Value} (x:Int) (h:Cs base cb vc vn ck nt (w5.setCell a u)) (y:base<=w5.heap.size):
  OwnL base vn nt ((w5.setCell a u).alloc (.cells #[I6 x] 3))/\((w5.setCell a u).alloc (.cells #[I6 x] 3)).cell? (a_ w5.heap.size 0)=some (I6 x)/\base<=((w5.setCell a u).alloc (.cells #[I6 x] 3)).heap.size /\
  ∀w7,((w5.setCell a u).alloc (.cells #[I6 x] 3)).grownBy w7 vn.ownBlock->w7.cell? (a_ cb 1)=some vn/\w7.frozen? (a_ cb 1)=false:=by
 have c:(w5.setCell a u).heap.size=w5.heap.size:=by simp[World.setCell]
 generalize w5.setCell a u=W at *;have b:=box_bel W (.cells #[I6 x] 3);refine⟨h.n.below b,by rw[<-c,Zm];rfl,ZJ (by omega) b.size,λw7 d=>?_⟩;have h2:TC cb [vc,vn] w7:=(h.s.below b).block (d.block _ (ZH h.s.lt b.size) (λe=>by have:=(h.n.blk _ e.symm).1;have:=h.lt;omega));exact h2 1 _ rfl
def Ko (w:World) (a:Addr):Nat:=match w.cell? a with|some (.slice _ n _)=>n|_=>0
theorem QV {a:Addr}{d:Option Addr} (h:w.cell? a=some (.slice d n c)):Ko w a=n:=by unfold Ko;rw[h]
theorem Rg (l:List Int) (j:Nat):l++List.replicate j (-1)++[-1]=l++List.replicate (j+1) (-1):=by
 rw[Zs,List.replicate_succ']
theorem DU (base cb:Nat) (vc vn:Value) (ck nt:List Int) (k:Nat) (s x:Int) (w:World) (h:Cs base cb vc vn ck nt w) (he:ck.length=nt.length) (hk:k<=100000) (az:ck.length<=100000) (an:base<=w.heap.size):
  Cp 75 #[pT cb,I6 k,I6 s,I6 x] w λe w'=>e=.returned (.tuple #[])/\∃vc' vn',Cs base cb vc' vn' (Pk.put ck k s) (Pk.put nt k x) w'/\WN cb vc vn vc' vn' w w':=by
 have H0:=hyd h;have He:=hyd he;clear h;go_enter Tryz.func75,Tryz.ntmps75;go_wp2
 go_loopw [] (λw'=>∃(j:Nat) (vc' vn':Value),j<=k+1-ck.length/\Cs base cb vc' vn' (ck++List.replicate j (-1)) (nt++List.replicate j (-1)) w'/\WN cb vc vn vc' vn' w w') (λw'=>k+1-Ko w' (a_ cb 0))
 ·exact⟨0,vc,vn,by omega,by simpa using H0.out,WN.refl _ _ _ _⟩
 obtain⟨j,vc',vn',hj,S,P⟩:=hrel;obtain⟨L,E⟩:=nam (ck++List.replicate j (-1));obtain⟨M,F⟩:=nam (nt++List.replicate j (-1));have U:L.length=ck.length+j:=by rw[E];simp
 have V:M.length=ck.length+j:=by rw[F,he];simp
 rw[<-E,<-F]at S;have I:=hyd E;have N:=hyd F;have ap:L.length<=200002:=by omega
 have aq:M.length<=200002:=by omega
 have t:L.length<=k->j+1<=k+1-ck.length:=by omega
 have r:¬L.length<=k->j=k+1-ck.length:=by omega
 have B:¬L.length<=k->k<M.length:=by omega
 have K:=hyd t;have J:=hyd r;have R:=hyd B;clear E F H0 he U V t r B;obtain⟨ad,cp,rfl,_⟩:=S.c.il;obtain⟨p,q,rfl,_⟩:=S.n.il;have c0:=(S.s 0 _ rfl).1;have c1:=(S.s 1 _ rfl).1;have Z:=ZJ an P.bel.size;have f:=QV c0;have d:=hyd f;clear f;by_cases l:L.length<=k
 ·have ak:(L.length:Int)<=(k:Int):=by omega
  obtain⟨u,ah,aa,z⟩:=S.first (-1) Z;have G:=hyd z;have HX:Hid (∀g cap w5,OwnL base (sL g (L.length+1) cap) (L++[-1]) w5->(wr.alloc (.cells #[I6 (-1)] 3)).grownBy w5 (Value.slice ad L.length cp).ownBlock->((Value.slice ad L.length cp).ownBlock=some g\/g=(wr.alloc (.cells #[I6 (-1)] 3)).heap.size) ->
    Cs base cb (sL g (L.length+1) cap) (.slice p M.length q) (L++[-1]) M (w5.setCell (a_ cb 0) (sL g (L.length+1) cap))/\WN cb vc vn (sL g (L.length+1) cap) (.slice p M.length q) w (w5.setCell (a_ cb 0) (sL g (L.length+1) cap))):=λg cap w5 h1 h2 h3=>by
   have h:=S.pushC rfl h1 h2 h3;exact⟨h.1,P.trans h.2⟩
  clear S P z;go_wp2_with (first
   |(at_builtin;refine wpList_append_int (by rfl) _ _ (by rfl) base (.slice ad L.length cp) L (by rfl) u (by omega) wr.heap.size (-1) (by rfl) ah aa _ rfl ?_;intro g cap w5 v b ac ae;obtain⟨c5,al⟩:=G.out w5 b;obtain⟨T,P5⟩:=HX.out g cap w5 v b ac;have c6:=(T.s 1 _ rfl).1;obtain⟨W,ag,Y,A⟩:=T.next (-1) (ZJ (v.blk g rfl).1 (ZM ae));have H:Hid (∀C,((w5.setCell (a_ cb 0) (sL g (L.length+1) cap)).alloc (.cells #[I6 (-1)] 3)).grownBy C (Value.slice p M.length q).ownBlock->C.cell? (a_ cb 1)=some (.slice p M.length q)/\C.frozen? (a_ cb 1)=false):=A;clear A u)
   |(at_builtin;refine wpList_append_int (by rfl) _ _ (by rfl) base (.slice p M.length q) M (by rfl) W (by omega) w5.heap.size (-1) (by rfl) ag Y _ rfl ?_;intro g7 ai C X a y aw;obtain⟨c7,am⟩:=H.out C a))
  obtain⟨D,P7⟩:=T.pushN rfl X a y;have P8:=P5.trans P7;have af:=QV (D.s 0 _ rfl).1;rw[I.out,N.out,Rg,Rg]at D;rw[<-I.out,<-N.out]at D;go_roundw
  ·exact⟨j+1,_,_,K.out l,D,P8⟩
  rw[af,d.out];omega
 have ar:¬(L.length:Int)<=(k:Int):=by omega
 have i:=J.out l;have aj:=R.out l;have m:Hid (L.set k s=Pk.put ck k s):=by show _=_;rw[I.out,i];rfl
 have o:Hid (M.set k x=Pk.put nt k x):=by show _=_;rw[N.out,i,He.out];rfl
 obtain⟨g,cg,hg⟩:=S.c.some_ (by omega);obtain⟨g',ao,ab⟩:=S.n.some_ (by omega);cases hg;cases ab;obtain⟨k1,ax⟩:=S.c.at_ k (by omega);obtain⟨S1,P1⟩:=S.setC k s;have d1:=(S1.s 1 _ rfl).1;obtain⟨k2,ay⟩:=S1.n.at_ k (by omega);obtain⟨S2,P2⟩:=S1.setN k x;have au:(k:Int)<(L.length:Int):=by omega
 have av:(k:Int)<(M.length:Int):=by omega
 have P3:=(P.trans P1).trans P2;rw[m.out,o.out]at S2;have Q:=hyd S2;have O:=hyd P3;clear S S1 P1 S2 P2 P3 P m o d i;go_wp2;go_end0;exact⟨rfl,_,_,Q.out,O.out⟩
end Go.Proofs.YtoaaklhpmhjhkaaGreat
