import Derived.Deep.AppendLies
import Derived.Test.YtoaaklhpmhjhkabC16
set_option maxRecDepth 100000
set_option maxHeartbeats 4000000
set_option linter.all false
namespace Go.Proofs.Ytoaaklhpmhjhkab
open Go.RowKit
namespace Bm
def ints (l:List Int):List Value:=l.map fun x=>.int .i64 x
theorem ints_append (a b:List Int):ints (a++b)=ints a++ints b:=by simp[ints]
def OwnL (base:Nat) (v:Value) (l:List Int) (w:World):Prop:=w.ownsRow base 3 1 v l.length (ints l)
theorem OwnL.nil (base:Nat) (w:World):OwnL base (.slice none 0 0) [] w:=⟨rfl,Or.inl ⟨rfl,rfl⟩⟩
variable {base : Nat}{v : Value}{w : World}
theorem OwnL.blk {l:List Int} (h:OwnL base v l w):∀k,v.ownBlock=some k->base<=k/\k<w.heap.size:=fun k hk=>h.lt k hk
variable {w' : World}
theorem OwnL.keep {l:List Int} (h:OwnL base v l w) (hk:∀k,v.ownBlock=some k->w'.heap[k]?=w.heap[k]?):OwnL base v l w':=by
 refine⟨h.1,?_⟩;rcases h.2 with h0|⟨g,cap,cur,rfl,h1,h2,h3⟩
 ·exact Or.inl h0
 ·exact Or.inr ⟨g,cap,cur,rfl,h1,by rw[hk g rfl];exact h2,h3⟩
theorem OwnL.below {l:List Int} (h:OwnL base v l w) (hW:Below w.heap.size w w'):OwnL base v l w':=h.keep (fun k hk=>hW.block k (h.blk k hk).2)
variable {base' : Nat}
theorem OwnL.mono {l:List Int} (h:OwnL base v l w) (hb:base'<=base):OwnL base' v l w:=
 ⟨h.1,h.2.imp id (fun⟨g,cap,cur,a,b,c⟩=>⟨g,cap,cur,a,Nat.le_trans hb b,c⟩)⟩
variable {row : Option Nat}
theorem OwnL.grown {l:List Int} (h:OwnL base v l w) (hg:w.grownBy w' row) (hne:∀k,v.ownBlock=some k->row≠some k):OwnL base v l w':=
 h.keep (fun k hk=>hg.block k (h.blk k hk).2 (fun e=>hne k hk e.symm))
theorem OwnL.il {l:List Int} (h:OwnL base v l w):∃ad cap,v=.slice ad l.length cap/\IL ad (fun i=>l.getD i 0) l.length w:=by
 rcases h.2 with ⟨rfl,h0⟩|⟨g,cap,cur,rfl,h1,h2,h3,h4,h5,h6⟩
 ·refine⟨none,0,by rw[h0],fun i hi=>by omega⟩
 ·refine⟨some ⟨g,0,none⟩,cap,rfl,fun i hi=>⟨g,0,rfl,?_⟩⟩;have hx:=h.cells (g:=g) rfl i (.int .i64 (l.getD i 0)) (by simp[ints,List.getD_eq_getElem?_getD,hi]);rw[Addr.add_lit]at hx;exact hx
variable {a : Act}{ops : Array Oper}{Q : Exit → Act → World → Prop}{rest : List Oper}{o : Oper}
theorem wpList_append_int (hgd:o.guard=none) (s x:Operand)
  (ho:o.op=.call { callee:=.builtin .append,args:=#[s,x],argTypes:=#[22,22] }) (base:Nat)
  (v:Value) (l:List Int) (hs:a.eval s=v) (hown:OwnL base v l w) (hn:l.length<=1000000)
  (B:Nat) (t:Int) (hx:a.eval x=.slice (some ⟨B,0,none⟩) 1 1) (hnews:w.cell? ⟨B,0,none⟩=some (.int .i64 t)) (hbase:base<=w.heap.size) (H:Nat) (hH:w.heap.size=H)
  (h:∀g cap w',OwnL base (.slice (some ⟨g,0,none⟩) (l.length+1) cap) (l++[t]) w'->w.grownBy w' v.ownBlock->(v.ownBlock=some g\/g=H)->g<w'.heap.size->wpList Try.prog ops Q rest (a.put o.dst (.slice (some ⟨g,0,none⟩) (l.length+1) cap)) w'):wpList Try.prog ops Q (o::rest) a w:=by
 obtain⟨i,hi,hz0,hz1,hz2⟩:=Q6;refine wpList_append_lies w hgd s x 22 ho base 3 i (.int .i64 0) 1 8 Try.underlying22 hi hz0 hz1 hz2 rfl (by omega) v l.length (ints l) hs hown ⟨B,0,none⟩ 1 1 [.int .i64 t] hx rfl (fun j u hu=>?_) (by simp[Value.oneCell']) (by omega) (by unfold maxLen;omega) (by omega) hbase H hH ?_
 ·rw[Addr.add_lit,Nat.zero_add];cases j with
  |zero=>simp at hu;subst hu;exact hnews
  |succ j=>simp at hu
 ·intro g cap w' h1 h2 h3 h4;refine h g cap w' ?_ h2 h3 h4;unfold OwnL;rw[ints_append,List.length_append];exact h1
def TC (t:Nat) (L:List Value) (w:World):Prop:=∀k v,L[k]?=some v->w.cell? ⟨t,k,none⟩=some v/\w.frozen? ⟨t,k,none⟩=false
variable {L : List Value}
theorem TC.block {t:Nat} (h:TC t L w) (hb:w'.heap[t]?=w.heap[t]?):TC t L w':=fun k v hv=>by
 rw[World.cell?_of_block (w:=w) (a:=⟨t,k,none⟩) hb,World.frozen?_of_block (w:=w) (a:=⟨t,k,none⟩) hb];exact h k v hv
theorem TC.lt {t:Nat} (h:TC t (v::L) w):t<w.heap.size:=World.block_lt_of_cell? w _ (h 0 v rfl).1
theorem TC.below {t:Nat} (h:TC t (v::L) w) (hW:Below w.heap.size w w'):TC t (v::L) w':=h.block (hW.block t h.lt)
theorem TC.set {t:Nat} (h:TC t L w) (q:Nat) (hq:q<L.length) (u:Value):TC t (L.set q u) (w.setCell ⟨t,q,none⟩ u):=fun k v hv=>by
 rw[World.frozen?_setCell];by_cases e:k=q
 ·subst e;rw[List.getElem?_set_self hq]at hv;obtain⟨h1,h2⟩:=h k L[k] (List.getElem?_eq_getElem hq);cases hv;exact⟨World.cell?_setCell_same w ⟨t,k,none⟩ u (by rw[h1]),h2⟩
 ·rw[List.getElem?_set_ne (fun x=>e x.symm)]at hv;obtain⟨h1,h2⟩:=h k v hv;exact⟨by rw[World.cell?_setCell_other _ _ _ _ (by intro he;cases he;exact e rfl)];exact h1,h2⟩
theorem TC.range {t:Nat} (h:TC t L w):w.rangeAt t 0 L:=fun k v hv=>by rw[Nat.zero_add];exact(h k v hv).1
theorem TC.there {t:Nat} (h:TC t L w):w.there t 0 L.length:=fun j hj=>by
 rw[Nat.zero_add];obtain⟨h1,h2⟩:=h j L[j] (List.getElem?_eq_getElem hj);exact⟨by rw[h1];rfl,h2⟩
theorem TC.boxed (w:World) (L:List Value) (ty:TypeId):TC w.heap.size L (w.alloc (.cells L.toArray ty)):=fun k v hv=>by
 refine⟨by rw[World.cell?_alloc_new];simpa using hv,?_⟩;go_simp
theorem box_bel (w:World) (o:Obj):Below w.heap.size w (w.alloc o):=(Below.refl _ _).alloc (Nat.le_refl _) o
variable {fn : Func}
theorem res_cell1 {p:Tmp}{ty:TypeId} (h:fn.results=#[.cell p ty]) (tmps:Array Value) (P:Program) (w:World):
  (results fn tmps).run P w=((asAddr (tmps.getD p undef)).run P w).andThen fun a w₁=>(loadVar ty a).run P w₁:=by
 simp only[results,h];simp[Sem.run_bind,Result.andThen]
variable {tmps : Array Value}{P : Program}
theorem res_load1 {p:Tmp}{ty:TypeId}{ad:Addr} (h:fn.results=#[.cell p ty]) (ht:tmps.getD p undef=.pointer (some ad)) (hl:(loadVar ty ad).run P w=.ok v w):
  (results fn tmps).run P w=.ok v w:=by
 rw[res_cell1 h,ht];simp[asAddr,hl]
end Bm
open Bm
structure Rw (b n:Nat) (ad:Option Addr) (nn cap:Nat) (nx:Nat->Int) (w:World):Prop where
 c0:w.cell? ⟨b,0,none⟩=some (.int .i64 n)
 c1:w.cell? ⟨b,1,none⟩=some (.slice ad nn cap)
 il:IL ad nx nn w
variable {ck : List Int}{b base cap g i m n : Nat}{nx : Nat → Int}{ad : Option Addr}{v vc vn : Value}{W w w' w'' w5 : World}
theorem Rw.below {nn:Nat} (h:Rw b n ad nn cap nx w) (hW:Below w.heap.size w w'):Rw b n ad nn cap nx w':=by
 have hb:=World.block_lt_of_cell? w _ h.c0;have e:∀k,w'.cell? ⟨b,k,none⟩=w.cell? ⟨b,k,none⟩:=fun k=>hW.cell (p:=⟨b,k,none⟩) hb
 exact⟨by rw[e];exact h.c0,by rw[e];exact h.c1,h.il.below hW⟩
def GU (n nn:Nat) (s:Int):Prop:=s=-1\/∃m:Nat,s=m/\m<=96/\m*n+n<=nn
theorem Th (b n:Nat) (ad:Option Addr) (nn cap:Nat) (nx:Nat->Int) (s:Int) (c:Nat) (w:World) (h:Rw b n ad nn cap nx w) (hn:n<=256) (hnn:nn<=24576) (hs:GU n nn s) (hc:c<n):
  Calls Try.prog 65 #[.pointer (some ⟨b,0,none⟩),.int .i64 s,.int .i64 c] w fun e w'=>e=.returned (.int .i64 (Pk.ld nx n s c))/\Below w.heap.size w w':=by
 rcases hs with rfl|⟨m,rfl,hm,hmn⟩
 ·rw[Pk.ld_none];clear h;go_enter Try.func65,Try.ntmps65;go_wp2_with fail;go_ret;exact⟨rfl,Below.refl _ _⟩
 ·rw[Pk.ld_nat];obtain⟨p,hp⟩:∃p:Nat,p=m*n:=⟨_,rfl⟩;rw[<-hp]at hmn ⊢;have ip:(m:Int)*(n:Int)=(p:Int):=by rw[hp];simp
  clear hp;obtain⟨k,hk⟩:∃k:Nat,k=p+c:=⟨_,rfl⟩;rw[<-hk];have ik:(p:Int)+(c:Int)=(k:Int):=by omega
  have hkn:k<nn:=by omega
  have hkn':(k:Int)<nn:=by omega
  obtain⟨g,o,rfl,ck⟩:=h.il k hkn;have c0:=h.c0;have c1:=h.c1;have q1:((m:Int)==-1)=false:=by simp
  have hpb:p<=24576:=by omega
  clear h hk;go_enter Try.func65,Try.ntmps65;go_wp2_with fail
  go_quiet (fail)
  go_wp2_with fail;go_ret;exact⟨rfl,XC _ _ _⟩
def VP (l:List Nat):List Int:=l.map fun(a:Nat)=>(a:Int)
theorem VJ (l:List Nat):(VP l).length=l.length:=by simp[VP]
theorem Ow (l r:List Nat):VP (l++r)=VP l++VP r:=by simp[VP]
theorem Kl (b n:Nat) (ad:Option Addr) (nn cap:Nat) (nx:Nat->Int) (s d:Int) (w:World) (h:Rw b n ad nn cap nx w) (hn:n<=256) (hnn:nn<=24576) (hs:GU n nn s) (hd:GU n nn d):
  Calls Try.prog 87 #[.pointer (some ⟨b,0,none⟩),.int .i64 s,.int .i64 d] w fun e w'=>∃v,e=.returned v/\OwnL w.heap.size v (VP (Pk.dif nx n s d n)) w'/\Below w.heap.size w w':=by
 have HR:Hid (∀w',Below w.heap.size w w'->w'.cell? ⟨b,0,none⟩=some (.int .i64 n)):=fun w' h'=>(h.below h').c0
 have HS:Hid (∀(c:Nat) (w':World),c<n->Below w.heap.size w w'->Calls Try.prog 65 #[.pointer (some ⟨b,0,none⟩),.int .i64 s,.int .i64 c] w' fun e w''=>e=.returned (.int .i64 (Pk.ld nx n s c))/\Below w'.heap.size w' w''):=fun c w' hc h'=>Th b n ad nn cap nx s c w' (h.below h') hn hnn hs hc
 have HD:Hid (∀(c:Nat) (w':World),c<n->Below w.heap.size w w'->Calls Try.prog 65 #[.pointer (some ⟨b,0,none⟩),.int .i64 d,.int .i64 c] w' fun e w''=>e=.returned (.int .i64 (Pk.ld nx n d c))/\Below w'.heap.size w' w''):=fun c w' hc h'=>Th b n ad nn cap nx d c w' (h.below h') hn hnn hd hc
 clear h hs hd;go_enter Try.func87,Try.ntmps87;go_wp2_with fail
 go_loopw [7,8] (fun v x w'=>∃k:Nat,k<=n/\x=.int .i64 k/\OwnL w.heap.size v (VP (Pk.dif nx n s d k)) w'/\Below w.heap.size w w') (fun _ x _=>n-(intOf x).toNat)
 case atStart=>exact⟨0,by omega,rfl,OwnL.nil _ _,Below.refl _ _⟩
 case round=>
  obtain⟨k,hk,rfl,hO,hB⟩:=hrel;have c0:=HR.out wr hB;by_cases hlt:k<n
  ·have hlt':(k:Int)<n:=by omega
   go_wp2_with fail;clear c0;refine(HS.out k _ hlt hB).mono ?_;rintro e w1 ⟨rfl,hW1⟩;have hB1:=hB.trans (hW1.mono hB.size);have hO1:=hO.below hW1;clear hO hB hW1;go_wp2_with fail;refine(HD.out k _ hlt hB1).mono ?_;rintro e w2 ⟨rfl,hW2⟩;have hB2:=hB1.trans (hW2.mono hB1.size);have hO2:=hO1.below hW2;clear hO1 hB1 hW2;have hdl:=Pk.dif_len nx n s d k;by_cases he:Pk.ld nx n s k=Pk.ld nx n d k
   ·have e1:=Pk.dif_eq he;rw[<-e1]at hO2;have q2:(Pk.ld nx n s k != Pk.ld nx n d k)=false:=by simp[he]
    clear e1 he;go_wp2_with fail;go_roundw
    case rel=>exact⟨k+1,by omega,by go_num,hO2,hB2⟩
    case measure=>simp[intOf];omega
   ·have E1:=hyd (Pk.dif_ne he);have q2:(Pk.ld nx n s k != Pk.ld nx n d k)=true:=by simp[he]
    have hx:=box_bel w2 (.cells #[.int .i64 (k:Int)] 3);have hO3:=hO2.below hx;have hB3:=hB2.trans (hx.mono hB2.size);have hge2:=hO3.blk;have hnw:(w2.alloc (.cells #[.int .i64 (k:Int)] 3)).cell? ⟨w2.heap.size,0,none⟩=some (.int .i64 (k:Int)):=by rw[World.cell?_alloc_new];rfl
    have hbs:=hB3.size;clear he hx hO2 hB2;go_wp2_with (first|(at_builtin;refine wpList_append_int (by rfl) _ _ (by rfl) w.heap.size u7 (VP (Pk.dif nx n s d k)) (by rfl) hO3 (by rw[VJ];omega) w2.heap.size k (by rfl) hnw hbs _ rfl ?_;intro g cap w5 hO5 hgrow hgb hl5));have e1:VP (Pk.dif nx n s d k)++[(k:Int)]=VP (Pk.dif nx n s d (k+1)):=by rw[E1.out,Ow];rfl
    rw[e1]at hO5;go_roundw
    case rel=>exact⟨k+1,by omega,by go_num,hO5,hB3.grown hgrow hbs (fun q hq=>(hge2 q hq).1)⟩
    case measure=>simp[intOf];omega
  ·have hge:¬(k:Int)<n:=by omega
   have hkn:k=n:=by omega
   go_wp2_with fail;go_ret;refine⟨u7,rfl,?_,hB⟩;rw[hkn]at hO;exact hO
theorem LJ (b n:Nat) (ad:Option Addr) (nn cap:Nat) (nx:Nat->Int) (s:Nat) (w:World) (h:Rw b n ad nn cap nx w) (hn:n<=256) (hnn:nn<=24576) (hs:s<=96) (hsn:s*n+n<=nn):
  Calls Try.prog 63 #[.pointer (some ⟨b,0,none⟩),.int .i64 s] w fun e w'=>∃v,e=.returned (.tuple #[.int .i64 (Pk.df nx n s),v])/\OwnL w.heap.size v (VP (Pk.own nx n s)) w'/\Below w.heap.size w w':=by
 have HC:Hid (∀(d:Int) (w':World),(d=-1\/∃m:Nat,d=m/\m<s)->Below w.heap.size w w'->Calls Try.prog 87 #[.pointer (some ⟨b,0,none⟩),.int .i64 s,.int .i64 d] w' fun e w''=>∃v,e=.returned v/\OwnL w'.heap.size v (VP (Pk.dif nx n s d n)) w''/\Below w'.heap.size w' w''):=fun d w' hd h'=>by
  refine Kl b n ad nn cap nx s d w' (h.below h') hn hnn (Or.inr ⟨s,rfl,hs,hsn⟩) ?_;rcases hd with hd|⟨m,hm,hms⟩
  ·exact Or.inl hd
  ·refine Or.inr ⟨m,hm,by omega,?_⟩;have:m*n<=s*n:=Nat.mul_le_mul_right n (by omega);omega
 clear h hsn;go_enter Try.func63,Try.ntmps63;go_wp2_with fail;refine(HC.out (-1) _ (Or.inl rfl) (Below.refl _ _)).mono ?_;rintro e w1 ⟨v1,rfl,hO1,hB1⟩;have hO1':=hO1;clear hO1;go_wp2_with fail
 go_loopw [6,7,8] (fun x v y w'=>∃d:Nat,d<=s/\y=.int .i64 d/\x=.int .i64 (Pk.near nx n s d).1/\OwnL w.heap.size v (VP (Pk.near nx n s d).2) w'/\Below w.heap.size w w') (fun _ _ y _=>s-(intOf y).toNat)
 case atStart=>exact⟨0,by omega,rfl,rfl,hO1',hB1⟩
 case round=>
  clear hO1' hB1;obtain⟨d,hd,rfl,rfl,hO,hB⟩:=hrel;obtain⟨a7,c7,hv7,_⟩:=hO.il;rw[VJ]at hv7;subst hv7;by_cases hlt:d<s
  ·have hlt':(d:Int)<s:=by omega
   go_wp2_with fail;refine(HC.out d _ (Or.inr ⟨d,rfl,hlt⟩) hB).mono ?_;rintro e w2 ⟨v2,rfl,hO2,hB2⟩;have hO3:=hO.below hB2;have hB3:=hB.trans (hB2.mono hB.size);have hO4:=hO2.mono hB.size;obtain⟨a9,c9,hv9,_⟩:=hO4.il;rw[VJ]at hv9;subst hv9;clear hO hB hO2 hB2;by_cases hl:(Pk.dif nx n s d n).length<(Pk.near nx n s d).2.length
   ·have E1:=hyd (Pk.near_lt hl);have hl':((Pk.dif nx n s d n).length:Int)<((Pk.near nx n s d).2.length:Int):=by omega
    clear hl;go_wp2_with fail;go_roundw
    case rel=>exact⟨d+1,by omega,by go_num,by rw[E1.out],by rw[E1.out];exact hO4,hB3⟩
    case measure=>simp[intOf];omega
   ·have E1:=hyd (Pk.near_ge hl);have hl':¬((Pk.dif nx n s d n).length:Int)<((Pk.near nx n s d).2.length:Int):=by omega
    clear hl;go_wp2_with fail;go_roundw
    case rel=>exact⟨d+1,by omega,by go_num,by rw[E1.out],by rw[E1.out];exact hO3,hB3⟩
    case measure=>simp[intOf];omega
  ·have hge:¬(d:Int)<s:=by omega
   have hds:d=s:=by omega
   subst hds;go_wp2_with fail;go_ret2;exact⟨_,rfl,hO,hB⟩
theorem Bm.OwnL.at_ {l:List Int} (h:OwnL base (.slice (some ⟨g,0,none⟩) m cap) l w) (k:Nat) (hk:k<l.length):w.cell? ⟨g,k,none⟩=some (.int .i64 (l.getD k 0))/\w.frozen? ⟨g,k,none⟩=false:=by
 rcases h.2 with ⟨h0,_⟩|⟨g',cap',cur,h0,h1,h2,h3,h4,h5,h6⟩
 ·cases h0
 ·have e:g'=g:=by cases h0;rfl
  subst e;have hx:=h.cells (g:=g') rfl k (.int .i64 (l.getD k 0)) (by simp[ints,List.getD_eq_getElem?_getD,hk]);rw[Addr.add_lit,Nat.zero_add]at hx;refine⟨hx,?_⟩;simp[World.frozen?,h2]
theorem Bm.OwnL.some_ {l:List Int} (h:OwnL base v l w) (hl:0<l.length):∃g cap,v=.slice (some ⟨g,0,none⟩) l.length cap:=by
 rcases h.2 with ⟨rfl,h0⟩|⟨g,cap,cur,rfl,_⟩
 ·omega
 ·exact⟨g,cap,rfl⟩
theorem Bm.OwnL.set_ {l:List Int} (h:OwnL base (.slice (some ⟨g,0,none⟩) l.length cap) l w) (k:Nat) (x:Int):OwnL base (.slice (some ⟨g,0,none⟩) l.length cap) (l.set k x) (w.setCell ⟨g,k,none⟩ (.int .i64 x)):=by
 rcases h.2 with ⟨h0,_⟩|⟨g',cap',cur,h0,h1,h2,h3,h4,h5,h6⟩
 ·cases h0
 ·have e:g'=g:=by cases h0;rfl
  have e2:cap'=cap:=by cases h0;rfl
  subst e;subst e2;refine⟨by simp[ints],Or.inr ⟨g',cap',cur.setIfInBounds k (.int .i64 x),by simp,h1,?_,by simpa using h3,h4,by simpa using h5,?_⟩⟩
  ·have hlt:=(Array.getElem?_eq_some_iff.1 h2).1;unfold World.setCell;simp only[Array.getElem?_modify];rw[h2];rfl
  ·simp only[List.length_set,Nat.mul_one]at h6 ⊢;rw[Array.toList_setIfInBounds,List.take_set,h6];simp[ints,List.map_set]
structure Cs (base cb:Nat) (vc vn:Value) (ck nt:List Int) (w:World):Prop where
 s:TC cb [vc,vn] w
 c:OwnL base vc ck w
 n:OwnL base vn nt w
 ne:∀k,vc.ownBlock=some k->vn.ownBlock≠some k
 lt:cb<base
theorem Cs.below {cb:Nat}{nt:List Int} (h:Cs base cb vc vn ck nt w) (hW:Below w.heap.size w w'):Cs base cb vc vn ck nt w':=
 ⟨h.s.below hW,h.c.below hW,h.n.below hW,h.ne,h.lt⟩
theorem Cs.keep {cb:Nat}{nt:List Int} (h:Cs base cb vc vn ck nt w) (h0:w'.heap[cb]?=w.heap[cb]?) (h1:∀k,vc.ownBlock=some k->w'.heap[k]?=w.heap[k]?) (h2:∀k,vn.ownBlock=some k->w'.heap[k]?=w.heap[k]?):Cs base cb vc vn ck nt w':=
 ⟨h.s.block h0,h.c.keep h1,h.n.keep h2,h.ne,h.lt⟩
structure Xo (cb:Nat) (vc vn vc' vn':Value) (w w':World):Prop where
 bel:Below cb w w'
 kept:∀q,q<w.heap.size->q≠cb->vc.ownBlock≠some q->vn.ownBlock≠some q->w'.heap[q]?=w.heap[q]?
 oc:∀q,vc'.ownBlock=some q->vc.ownBlock=some q\/w.heap.size<=q
 on:∀q,vn'.ownBlock=some q->vn.ownBlock=some q\/w.heap.size<=q
theorem Xo.refl (cb:Nat) (vc vn:Value) (w:World):Xo cb vc vn vc vn w w:=⟨Below.refl _ _,fun _ _ _ _ _=>rfl,fun _ h=>Or.inl h,fun _ h=>Or.inl h⟩
theorem Xo.trans {cb:Nat}{vc' vn' vc'' vn'':Value} (h:Xo cb vc vn vc' vn' w w') (h':Xo cb vc' vn' vc'' vn'' w' w''):Xo cb vc vn vc'' vn'' w w'':=by
 refine⟨h.bel.trans h'.bel,fun q hq h0 h1 h2=>?_,fun q hq=>?_,fun q hq=>?_⟩
 ·have hz:=h.bel.size;rw[h'.kept q (by omega) h0 (fun e=>?_) (fun e=>?_),h.kept q hq h0 h1 h2]
  ·rcases h.oc q e with e|e
   ·exact h1 e
   ·omega
  ·rcases h.on q e with e|e
   ·exact h2 e
   ·omega
 ·have hz:=h.bel.size;rcases h'.oc q hq with e|e
  ·exact h.oc q e
  ·exact Or.inr (by omega)
 ·have hz:=h.bel.size;rcases h'.on q hq with e|e
  ·exact h.on q e
  ·exact Or.inr (by omega)
theorem Cs.pushC {base cb:Nat}{vc vn:Value}{ck nt:List Int}{W W1 w5:World}{x:Int}{g cap:Nat}{ob:Obj} (h:Cs base cb vc vn ck nt W) (hW1:W1=W.alloc ob)
  (h5:OwnL base (.slice (some ⟨g,0,none⟩) (ck.length+1) cap) (ck++[x]) w5) (hg:W1.grownBy w5 vc.ownBlock) (hgb:vc.ownBlock=some g\/g=W1.heap.size):
  Cs base cb (.slice (some ⟨g,0,none⟩) (ck.length+1) cap) vn (ck++[x]) nt (w5.setCell ⟨cb,0,none⟩ (.slice (some ⟨g,0,none⟩) (ck.length+1) cap))/\Xo cb vc vn (.slice (some ⟨g,0,none⟩) (ck.length+1) cap) vn W (w5.setCell ⟨cb,0,none⟩ (.slice (some ⟨g,0,none⟩) (ck.length+1) cap)):=by
 have hlt:=h.lt;have hcb:=h.s.lt;have x1:Below W.heap.size W W1:=by rw[hW1];exact box_bel _ _
 have hz1:W1.heap.size=W.heap.size+1:=by rw[hW1];simp
 have k1:=h.below x1;have hb:∀k,k≠cb->(w5.setCell ⟨cb,0,none⟩ (.slice (some ⟨g,0,none⟩) (ck.length+1) cap)).heap[k]?=w5.heap[k]?:=fun k hk=>Below.heap_setCell w5 ⟨cb,0,none⟩ _ k (fun e=>hk e)
 have hgc:base<=g:=(h5.blk g rfl).1;have hc:=h.c.blk;have hn:=h.n.blk;refine⟨⟨?_,?_,?_,?_,hlt⟩,?_,?_,?_,?_⟩
 ·exact(k1.s.block (hg.block _ (by omega) (fun e=>by have:=(hc _ e.symm).1;omega))).set 0 (by simp) _
 ·exact h5.keep (fun k hk=>hb k (by cases hk;show g≠_;omega))
 ·exact(k1.n.grown hg (fun k hk e=>h.ne k e hk)).keep (fun k hk=>hb k (by have:=(hn k hk).1;omega))
 ·intro k hk e;have e2:g=k:=Option.some.inj hk;rcases hgb with h1|h1
  ·rw[e2]at h1;exact h.ne k h1 e
  ·have:=(hn k e).2;omega
 ·exact((x1.mono (Nat.le_of_lt hcb)).grown hg (by omega) (fun q hq=>by have:=(hc q hq).1;omega)).setCell (p:=⟨cb,0,none⟩) (Nat.le_refl _) _
 ·intro q hq h0 h1 h2;rw[hb q h0,hg.block q (by omega) (fun e=>h1 e.symm),x1.block q hq]
 ·intro q hq;have e2:g=q:=Option.some.inj hq;rcases hgb with h1|h1
  ·left;rw[h1,e2]
  ·right;omega
 ·exact fun q hq=>Or.inl hq
theorem Cs.pushN {base cb:Nat}{vc vn:Value}{ck nt:List Int}{W W1 w5:World}{x:Int}{g cap:Nat}{ob:Obj} (h:Cs base cb vc vn ck nt W) (hW1:W1=W.alloc ob)
  (h5:OwnL base (.slice (some ⟨g,0,none⟩) (nt.length+1) cap) (nt++[x]) w5) (hg:W1.grownBy w5 vn.ownBlock) (hgb:vn.ownBlock=some g\/g=W1.heap.size):
  Cs base cb vc (.slice (some ⟨g,0,none⟩) (nt.length+1) cap) ck (nt++[x]) (w5.setCell ⟨cb,1,none⟩ (.slice (some ⟨g,0,none⟩) (nt.length+1) cap))/\Xo cb vc vn vc (.slice (some ⟨g,0,none⟩) (nt.length+1) cap) W (w5.setCell ⟨cb,1,none⟩ (.slice (some ⟨g,0,none⟩) (nt.length+1) cap)):=by
 have hlt:=h.lt;have hcb:=h.s.lt;have x1:Below W.heap.size W W1:=by rw[hW1];exact box_bel _ _
 have hz1:W1.heap.size=W.heap.size+1:=by rw[hW1];simp
 have k1:=h.below x1;have hb:∀k,k≠cb->(w5.setCell ⟨cb,1,none⟩ (.slice (some ⟨g,0,none⟩) (nt.length+1) cap)).heap[k]?=w5.heap[k]?:=fun k hk=>Below.heap_setCell w5 ⟨cb,1,none⟩ _ k (fun e=>hk e)
 have hgc:base<=g:=(h5.blk g rfl).1;have hc:=h.c.blk;have hn:=h.n.blk;refine⟨⟨?_,?_,?_,?_,hlt⟩,?_,?_,?_,?_⟩
 ·exact(k1.s.block (hg.block _ (by omega) (fun e=>by have:=(hn _ e.symm).1;omega))).set 1 (by simp) _
 ·exact(k1.c.grown hg (fun k hk e=>h.ne k hk e)).keep (fun k hk=>hb k (by have:=(hc k hk).1;omega))
 ·exact h5.keep (fun k hk=>hb k (by cases hk;show g≠_;omega))
 ·intro k hk e;have e2:g=k:=Option.some.inj e;rcases hgb with h1|h1
  ·rw[e2]at h1;exact h.ne k hk h1
  ·have:=(hc k hk).2;omega
 ·exact((x1.mono (Nat.le_of_lt hcb)).grown hg (by omega) (fun q hq=>by have:=(hn q hq).1;omega)).setCell (p:=⟨cb,1,none⟩) (Nat.le_refl _) _
 ·intro q hq h0 h1 h2;rw[hb q h0,hg.block q (by omega) (fun e=>h2 e.symm),x1.block q hq]
 ·exact fun q hq=>Or.inl hq
 ·intro q hq;have e2:g=q:=Option.some.inj hq;rcases hgb with h1|h1
  ·left;rw[h1,e2]
  ·right;omega
theorem Cs.setC {cb:Nat}{nt:List Int} (h:Cs base cb (.slice (some ⟨g,0,none⟩) ck.length cap) vn ck nt W) (k:Nat) (x:Int):
  Cs base cb (.slice (some ⟨g,0,none⟩) ck.length cap) vn (ck.set k x) nt (W.setCell ⟨g,k,none⟩ (.int .i64 x))/\Xo cb (.slice (some ⟨g,0,none⟩) ck.length cap) vn (.slice (some ⟨g,0,none⟩) ck.length cap) vn W (W.setCell ⟨g,k,none⟩ (.int .i64 x)):=by
 have hlt:=h.lt;have hg:=(h.c.blk g rfl).1;have hb:∀q,q≠g->(W.setCell ⟨g,k,none⟩ (.int .i64 x)).heap[q]?=W.heap[q]?:=fun q hq=>Below.heap_setCell W ⟨g,k,none⟩ _ q (fun e=>hq e)
 refine⟨⟨h.s.block (hb _ (by omega)),h.c.set_ k x,h.n.keep (fun q hq=>hb q (fun e=>h.ne g rfl (by rw[<-e];exact hq))),h.ne,hlt⟩,?_,?_,fun _ h=>Or.inl h,fun _ h=>Or.inl h⟩
 ·exact(Below.refl _ _).setCell (p:=⟨g,k,none⟩) (Nat.le_trans (Nat.le_of_lt hlt) hg) _
 ·exact fun q _ _ h1 _=>hb q (fun e=>h1 (by rw[e];rfl))
theorem Cs.setN {cb:Nat}{nt:List Int} (h:Cs base cb vc (.slice (some ⟨g,0,none⟩) nt.length cap) ck nt W) (k:Nat) (x:Int):
  Cs base cb vc (.slice (some ⟨g,0,none⟩) nt.length cap) ck (nt.set k x) (W.setCell ⟨g,k,none⟩ (.int .i64 x))/\Xo cb vc (.slice (some ⟨g,0,none⟩) nt.length cap) vc (.slice (some ⟨g,0,none⟩) nt.length cap) W (W.setCell ⟨g,k,none⟩ (.int .i64 x)):=by
 have hlt:=h.lt;have hg:=(h.n.blk g rfl).1;have hb:∀q,q≠g->(W.setCell ⟨g,k,none⟩ (.int .i64 x)).heap[q]?=W.heap[q]?:=fun q hq=>Below.heap_setCell W ⟨g,k,none⟩ _ q (fun e=>hq e)
 refine⟨⟨h.s.block (hb _ (by omega)),h.c.keep (fun q hq=>hb q (fun e=>h.ne q hq (by rw[e];rfl))),h.n.set_ k x,h.ne,hlt⟩,?_,?_,fun _ h=>Or.inl h,fun _ h=>Or.inl h⟩
 ·exact(Below.refl _ _).setCell (p:=⟨g,k,none⟩) (Nat.le_trans (Nat.le_of_lt hlt) hg) _
 ·exact fun q _ _ _ h2=>hb q (fun e=>h2 (by rw[e];rfl))
theorem SW (l:List Int) (k:Nat) (d e:Int) (h:k<l.length):l.getD k d=l.getD k e:=by
 rw[List.getD_eq_getElem?_getD,List.getD_eq_getElem?_getD,List.getElem?_eq_getElem h];rfl
theorem Mp {l:List Nat}{c:Nat} (h:l[i]?=some c):(VP l).getD i 0=(c:Int):=by simp[VP,List.getD_eq_getElem?_getD,h]
theorem JG (base cb:Nat) (vc vn:Value) (ck nt:List Int) (B b:Nat) (v:Value) (l:List Nat) (w:World) (h:Cs base cb vc vn ck nt w) (hv:OwnL B v (VP l) w) (hb:b<=100000) (_hck:ck.length<=100000) (hl:l.length<=256) (hl2:∀c∈l,c<256):
  Calls Try.prog 88 #[.pointer (some ⟨cb,0,none⟩),.int .i64 b,v] w fun e w'=>e=.returned (.bool (Pk.fr ck b l))/\w'=w:=by
 obtain⟨ad,cap,rfl,il⟩:=h.c.il;obtain⟨av,cv,rfl,iv⟩:=hv.il;rw[VJ]at iv ⊢;have c0:=(h.s 0 _ rfl).1;have HI:=hyd il;have HV:=hyd iv;clear h hv il iv;go_enter Try.func88,Try.ntmps88;go_wp2_with fail
 go_loop [12] (fun x=>∃i:Nat,i<=l.length/\x=.int .i64 i/\Hid (∀j c,j<i->l[j]?=some c->ck.getD (b+c) (-1)=-1)) (fun x=>l.length-(intOf x).toNat)
 case atStart=>exact⟨0,by omega,rfl,fun j c hj=>by omega⟩
 case round=>
  obtain⟨i,hi,rfl,HK⟩:=hrel;by_cases hlt:i<l.length
  ·have hlt':(i:Int)<(l.length:Int):=by omega
   obtain⟨c,hc⟩:∃c,l[i]?=some c:=⟨l[i],List.getElem?_eq_getElem hlt⟩;obtain⟨gv,ov,rfl,cv'⟩:=HV.out i hlt;simp only[Mp hc]at cv';have hc256:=hl2 c (List.mem_of_getElem? hc);have Hc:=hyd hc;obtain⟨k,hk⟩:∃k:Nat,k=b+c:=⟨_,rfl⟩;have Hk:=hyd hk;have ik:(b:Int)+(c:Int)=(k:Int):=by omega
   have hk5:k<=200000:=by omega
   have HK2:Hid (ck.getD k (-1)=-1->∀j c,j<i+1->l[j]?=some c->ck.getD (b+c) (-1)=-1):=fun h0 j c' hj hc'=>by
    by_cases e:j=i
    ·subst e;rw[Hc.out]at hc';cases hc';rw[<-Hk.out];exact h0
    ·exact HK.out j c' (by omega) hc'
   clear hc hk;by_cases hkl:k<ck.length
   ·have hkl':(k:Int)<(ck.length:Int):=by omega
    obtain⟨g,o,rfl,cc⟩:=HI.out k hkl;simp only[SW ck k 0 (-1) hkl]at cc;obtain⟨x,hx⟩:=nam (ck.getD k (-1));rw[<-hx]at cc;have Hx:=hyd hx;clear hx;by_cases he:x=-1
    ·have HK3:=hyd (HK2.out (by rw[<-Hx.out];exact he));have q1:(x==-1)=true:=by simpa using he
     have q2:(x != -1)=false:=by simp[he]
     clear he Hx HK HK2;go_wp2_with fail
     go_round
     case rel=>exact⟨i+1,by omega,by go_num,HK3⟩
     case measure=>simp[intOf];omega
    ·have q1:(x==-1)=false:=by simpa using he
     have q2:(x != -1)=true:=by simp[he]
     have HF:Hid (Pk.fr ck b l=false):=by
      show _=_;rw[<-Bool.not_eq_true,Pk.fr_iff];exact fun h=>he (by rw[Hx.out,Hk.out];exact h c (List.mem_of_getElem? Hc.out))
     clear he Hx HK HK2;go_wp2_with fail;go_ret;exact⟨Yj HF.out.symm,rfl⟩
   ·have hkl':¬(k:Int)<(ck.length:Int):=by omega
    have HK3:=hyd (HK2.out (Pk.getD_out _ _ _ (by omega)));clear HK HK2;go_wp2_with fail
    go_round
    case rel=>exact⟨i+1,by omega,by go_num,HK3⟩
    case measure=>simp[intOf];omega
  ·have hge:¬(i:Int)<(l.length:Int):=by omega
   have HF:Hid (Pk.fr ck b l=true):=by
    show _=_;rw[Pk.fr_iff];intro c hc;obtain⟨j,hj,hjc⟩:=List.getElem_of_mem hc;exact HK.out j c (by omega) (by rw[List.getElem?_eq_getElem hj,hjc])
   clear HK;go_wp2_with fail;go_ret;exact⟨Yj HF.out.symm,rfl⟩
theorem NH (base cb:Nat) (vc vn:Value) (ck nt:List Int) (B:Nat) (v:Value) (l:List Nat) (w:World) (h:Cs base cb vc vn ck nt w) (hv:OwnL B v (VP l) w) (hck:ck.length<=100000) (hl:l.length<=256) (hl2:∀c∈l,c<256):
  Calls Try.prog 64 #[.pointer (some ⟨cb,0,none⟩),v] w fun e w'=>e=.returned (.int .i64 (Pk.bas ck l))/\w'=w:=by
 have HF:Hid (∀b:Nat,b<=100000->Calls Try.prog 88 #[.pointer (some ⟨cb,0,none⟩),.int .i64 b,v] w fun e w'=>e=.returned (.bool (Pk.fr ck b l))/\w'=w):=fun b hb=>JG base cb vc vn ck nt B b v l w h hv hb hck hl hl2
 obtain⟨ad,cap,rfl,_⟩:=h.c.il;have c0:=(h.s 0 _ rfl).1;clear h hv;go_enter Try.func64,Try.ntmps64;go_wp2_with fail
 go_loop [5] (fun x=>∃b:Nat,b<=ck.length/\x=.int .i64 b/\Hid (∀i,i<b->Pk.fr ck i l=false)) (fun x=>ck.length-(intOf x).toNat)
 case atStart=>exact⟨0,by omega,rfl,fun i hi=>by omega⟩
 case round=>
  obtain⟨b,hb,rfl,HK⟩:=hrel;by_cases hlt:b<ck.length
  ·have hlt':(b:Int)<(ck.length:Int):=by omega
   go_wp2_with fail;refine(HF.out b (by omega)).mono ?_;rintro e w' ⟨rfl,rfl⟩;by_cases hf:Pk.fr ck b l=true
   ·have HB:=hyd (Pk.bas_eq hf HK.out);rw[hf];clear hf HK;go_wp2_with fail;go_ret;exact⟨YJ (by rw[HB.out]),rfl⟩
   ·have hf':Pk.fr ck b l=false:=by simpa using hf
    rw[hf'];have HK2:Hid (∀i,i<b+1->Pk.fr ck i l=false):=fun i hi=>by
     by_cases e:i=b
     ·subst e;exact hf'
     ·exact HK.out i (by omega)
    clear hf hf' HK;go_wp2_with fail
    go_round
    case rel=>exact⟨b+1,by omega,by go_num,HK2⟩
    case measure=>simp[intOf];omega
  ·have hge:¬(b:Int)<(ck.length:Int):=by omega
   have HB:Hid (Pk.bas ck l=ck.length):=by
    have hbe:b=ck.length:=by omega
    subst hbe;exact Pk.bas_eq (Pk.fr_len ck l) HK.out
   clear HK;go_wp2_with fail;go_ret;exact⟨YJ (by rw[HB.out]),rfl⟩
theorem Cs.first {cb:Nat}{nt:List Int} (x:Int) (h:Cs base cb vc vn ck nt W) (hb:base<=W.heap.size):
  OwnL base vc ck (W.alloc (.cells #[.int .i64 x] 3))/\(W.alloc (.cells #[.int .i64 x] 3)).cell? ⟨W.heap.size,0,none⟩=some (.int .i64 x)/\base<=(W.alloc (.cells #[.int .i64 x] 3)).heap.size /\
  ∀w5,(W.alloc (.cells #[.int .i64 x] 3)).grownBy w5 vc.ownBlock->w5.cell? ⟨cb,0,none⟩=some vc/\w5.frozen? ⟨cb,0,none⟩=false:=by
 have hx:=box_bel W (.cells #[.int .i64 x] 3);refine⟨h.c.below hx,by rw[World.cell?_alloc_new];rfl,Nat.le_trans hb hx.size,fun w5 hg=>?_⟩;have h2:TC cb [vc,vn] w5:=(h.s.below hx).block (hg.block _ (Nat.lt_of_lt_of_le h.s.lt hx.size) (fun e=>by have:=(h.c.blk _ e.symm).1;have:=h.lt;omega));exact h2 0 _ rfl
theorem Cs.next {cb:Nat}{nt:List Int}{a:Addr}{u:Value} (x:Int) (h:Cs base cb vc vn ck nt (w5.setCell a u)) (hb:base<=w5.heap.size):
  OwnL base vn nt ((w5.setCell a u).alloc (.cells #[.int .i64 x] 3))/\((w5.setCell a u).alloc (.cells #[.int .i64 x] 3)).cell? ⟨w5.heap.size,0,none⟩=some (.int .i64 x)/\base<=((w5.setCell a u).alloc (.cells #[.int .i64 x] 3)).heap.size /\
  ∀w7,((w5.setCell a u).alloc (.cells #[.int .i64 x] 3)).grownBy w7 vn.ownBlock->w7.cell? ⟨cb,1,none⟩=some vn/\w7.frozen? ⟨cb,1,none⟩=false:=by
 have hsz:(w5.setCell a u).heap.size=w5.heap.size:=by simp[World.setCell]
 generalize w5.setCell a u=W at *;have hx:=box_bel W (.cells #[.int .i64 x] 3);refine⟨h.n.below hx,by rw[<-hsz,World.cell?_alloc_new];rfl,Nat.le_trans (by omega) hx.size,fun w7 hg=>?_⟩;have h2:TC cb [vc,vn] w7:=(h.s.below hx).block (hg.block _ (Nat.lt_of_lt_of_le h.s.lt hx.size) (fun e=>by have:=(h.n.blk _ e.symm).1;have:=h.lt;omega));exact h2 1 _ rfl
def JT (w:World) (a:Addr):Nat:=match w.cell? a with|some (.slice _ n _)=>n|_=>0
theorem Ol {a:Addr}{d:Option Addr}{c:Nat} (h:w.cell? a=some (.slice d n c)):JT w a=n:=by unfold JT;rw[h]
theorem OO (l:List Int) (j:Nat):l++List.replicate j (-1)++[-1]=l++List.replicate (j+1) (-1):=by
 rw[List.append_assoc,List.replicate_succ']
theorem IX (base cb:Nat) (vc vn:Value) (ck nt:List Int) (k:Nat) (s x:Int) (w:World) (h:Cs base cb vc vn ck nt w) (he:ck.length=nt.length) (hk:k<=100000) (hck:ck.length<=100000) (hbw:base<=w.heap.size):
  Calls Try.prog 66 #[.pointer (some ⟨cb,0,none⟩),.int .i64 k,.int .i64 s,.int .i64 x] w fun e w'=>e=.returned (.tuple #[])/\∃vc' vn',Cs base cb vc' vn' (Pk.put ck k s) (Pk.put nt k x) w'/\Xo cb vc vn vc' vn' w w':=by
 have H0:=hyd h;have He:=hyd he;clear h;go_enter Try.func66,Try.ntmps66;go_wp2_with fail
 go_loopw [] (fun w'=>∃(j:Nat) (vc' vn':Value),j<=k+1-ck.length/\Cs base cb vc' vn' (ck++List.replicate j (-1)) (nt++List.replicate j (-1)) w'/\Xo cb vc vn vc' vn' w w') (fun w'=>k+1-JT w' ⟨cb,0,none⟩)
 case atStart=>exact⟨0,vc,vn,by omega,by simpa using H0.out,Xo.refl _ _ _ _⟩
 case round=>
  obtain⟨j,vc',vn',hj,S,P⟩:=hrel;obtain⟨L,hL⟩:=nam (ck++List.replicate j (-1));obtain⟨M,hM⟩:=nam (nt++List.replicate j (-1));have hLl:L.length=ck.length+j:=by rw[hL];simp
  have hMl:M.length=ck.length+j:=by rw[hM,he];simp
  rw[<-hL,<-hM]at S;have HL:=hyd hL;have HM:=hyd hM;have hLb:L.length<=200002:=by omega
  have hMb:M.length<=200002:=by omega
  have hLk:L.length<=k->j+1<=k+1-ck.length:=by omega
  have hLj:¬L.length<=k->j=k+1-ck.length:=by omega
  have hkM:¬L.length<=k->k<M.length:=by omega
  have HLk:=hyd hLk;have HLj:=hyd hLj;have HkM:=hyd hkM;clear hL hM H0 he hLl hMl hLk hLj hkM;obtain⟨ad,cp,rfl,_⟩:=S.c.il;obtain⟨an,cn,rfl,_⟩:=S.n.il;have c0:=(S.s 0 _ rfl).1;have c1:=(S.s 1 _ rfl).1;have hbr:=Nat.le_trans hbw P.bel.size;have hmes:=Ol c0;have Hmes:=hyd hmes;clear hmes;by_cases hlt:L.length<=k
  ·have hlt':(L.length:Int)<=(k:Int):=by omega
   obtain⟨hO1,hnw,hbs,hk1⟩:=S.first (-1) hbr;have HK1:=hyd hk1;have HX:Hid (∀g cap w5,OwnL base (.slice (some ⟨g,0,none⟩) (L.length+1) cap) (L++[-1]) w5->(wr.alloc (.cells #[.int .i64 (-1)] 3)).grownBy w5 (Value.slice ad L.length cp).ownBlock->((Value.slice ad L.length cp).ownBlock=some g\/g=(wr.alloc (.cells #[.int .i64 (-1)] 3)).heap.size) ->
     Cs base cb (.slice (some ⟨g,0,none⟩) (L.length+1) cap) (.slice an M.length cn) (L++[-1]) M (w5.setCell ⟨cb,0,none⟩ (.slice (some ⟨g,0,none⟩) (L.length+1) cap))/\Xo cb vc vn (.slice (some ⟨g,0,none⟩) (L.length+1) cap) (.slice an M.length cn) w (w5.setCell ⟨cb,0,none⟩ (.slice (some ⟨g,0,none⟩) (L.length+1) cap))):=fun g cap w5 h1 h2 h3=>by
    have h:=S.pushC rfl h1 h2 h3;exact⟨h.1,P.trans h.2⟩
   clear S P hk1;go_wp2_with (first
    |(at_builtin;refine wpList_append_int (by rfl) _ _ (by rfl) base (.slice ad L.length cp) L (by rfl) hO1 (by omega) wr.heap.size (-1) (by rfl) hnw hbs _ rfl ?_;intro g cap w5 hO5 hgrow hgb hl5;obtain⟨c5,c5f⟩:=HK1.out w5 hgrow;obtain⟨S5,P5⟩:=HX.out g cap w5 hO5 hgrow hgb;have c6:=(S5.s 1 _ rfl).1;obtain⟨hO6,hn6,hb6,hk6⟩:=S5.next (-1) (Nat.le_trans (hO5.blk g rfl).1 (Nat.le_of_lt hl5));have HK6:Hid (∀w7,((w5.setCell ⟨cb,0,none⟩ (.slice (some ⟨g,0,none⟩) (L.length+1) cap)).alloc (.cells #[.int .i64 (-1)] 3)).grownBy w7 (Value.slice an M.length cn).ownBlock->w7.cell? ⟨cb,1,none⟩=some (.slice an M.length cn)/\w7.frozen? ⟨cb,1,none⟩=false):=hk6;clear hk6 hO1)
    |(at_builtin;refine wpList_append_int (by rfl) _ _ (by rfl) base (.slice an M.length cn) M (by rfl) hO6 (by omega) w5.heap.size (-1) (by rfl) hn6 hb6 _ rfl ?_;intro g7 cap7 w7 hO7 hgrow7 hgb7 hl7;obtain⟨c7,c7f⟩:=HK6.out w7 hgrow7))
   obtain⟨S7,P7⟩:=S5.pushN rfl hO7 hgrow7 hgb7;have P8:=P5.trans P7;have hm8:=Ol (S7.s 0 _ rfl).1;rw[HL.out,HM.out,OO,OO]at S7;rw[<-HL.out,<-HM.out]at S7;go_roundw
   case rel=>exact⟨j+1,_,_,HLk.out hlt,S7,P8⟩
   case measure=>
    rw[hm8,Hmes.out];omega
  ·have hge:¬(L.length:Int)<=(k:Int):=by omega
   have hjk:=HLj.out hlt;have hkm0:=HkM.out hlt;have HP1:Hid (L.set k s=Pk.put ck k s):=by show _=_;rw[HL.out,hjk];rfl
   have HP2:Hid (M.set k x=Pk.put nt k x):=by show _=_;rw[HM.out,hjk,He.out];rfl
   obtain⟨g,cg,hg⟩:=S.c.some_ (by omega);obtain⟨g',cg',hg'⟩:=S.n.some_ (by omega);cases hg;cases hg';obtain⟨k1,k1f⟩:=S.c.at_ k (by omega);obtain⟨S1,P1⟩:=S.setC k s;have d1:=(S1.s 1 _ rfl).1;obtain⟨k2,k2f⟩:=S1.n.at_ k (by omega);obtain⟨S2,P2⟩:=S1.setN k x;have hkl:(k:Int)<(L.length:Int):=by omega
   have hkm:(k:Int)<(M.length:Int):=by omega
   have P3:=(P.trans P1).trans P2;rw[HP1.out,HP2.out]at S2;have HS2:=hyd S2;have HP3:=hyd P3;clear S S1 P1 S2 P2 P3 P HP1 HP2 Hmes hjk;go_wp2_with fail;go_end0;exact⟨rfl,_,_,HS2.out,HP3.out⟩
end Go.Proofs.Ytoaaklhpmhjhkab
namespace Go.Proofs.Ytoaaklhpmhjhkab
open Go.RowKit
def Wr (b base:Nat) (l:List UInt8) (w:World):Prop:=
 b<base/\w.frozen? ⟨b,0,none⟩=false/\∃v,w.cell? ⟨b,0,none⟩=some v/\XD base v (Pb l) w
def Wv (b base:Nat) (w:World) (l:List UInt8) (e:Ending) (w':World):Prop:=e=.returned (.tuple #[])/\Wr b base l w'/\Below b w w'
theorem X6 (b base:Nat) (l:List UInt8) (x:Int) (w:World) (hb:base<=w.heap.size) (hl:l.length<=1000000) (h:Wr b base l w):
  Calls Try.prog 44 #[.pointer (some ⟨b,0,none⟩),.int .i64 x] w (Wv b base w (l++[YP x])):=by
 obtain⟨h0,h1,v,h2,h3⟩:=h;obtain⟨i,hi,hz0,hz1,hz2⟩:=Mf;have hG:=h3.alloc (.cells #[.int .u8 (x%256)] 5);have hnew:∀j u,[Value.int .u8 (x%256)][j]?=some u->(w.alloc (.cells #[.int .u8 (x%256)] 5)).cell? ⟨w.heap.size,j,none⟩=some u:=fun j u hu=>by
  rw[World.cell?_alloc_new];simpa using hu
 have hbl:b<w.heap.size:=World.block_lt_of_cell? w _ h2;have hne:some b≠v.ownBlock:=fun e=>by have:=h3.ge b e.symm;omega
 have hc0:(w.alloc (.cells #[.int .u8 (x%256)] 5)).cell? ⟨b,0,none⟩=some v:=by rw[World.cell?_alloc_lt _ _ _ (by exact hbl)];exact h2
 have hf0:(w.alloc (.cells #[.int .u8 (x%256)] 5)).frozen? ⟨b,0,none⟩=false:=by
  rw[World.frozen?_of_block (w:=w) (a:=⟨b,0,none⟩) (Below.heap_alloc w _ b hbl)];exact h1
 have hW:Below b w (w.alloc (.cells #[.int .u8 (x%256)] 5)):=(Below.refl _ _).alloc (by omega) _;go_enter Try.func44,Try.ntmps44;go_wp2_with (first|(at_builtin;refine O7 (by rfl) _ _ 78 5 (by rfl) i (.int .u8 0) 1 Try.underlying78 hi hz0 hz1 hz2 rfl (by omega) base v (Pb l) (by rfl) hG w.heap.size 1 [.int .u8 (x%256)] (by rfl) rfl hnew (by simp[Value.oneCell']) (by rw[Pi];omega) (by simp;omega) (by omega) ?_;intro g cap w2 hG2 hgrow;have q1:=hgrow.cell hc0 hne;have q2:w2.frozen? ⟨b,0,none⟩=false:=(hgrow.frozen_far ⟨b,0,none⟩ (by simp;omega) hne).trans hf0));go_end0;refine⟨rfl,⟨h0,?_,.slice (some ⟨g,0,none⟩) ((Pb l).length+1) cap,?_,?_⟩,?_⟩
 ·rw[World.frozen?_setCell];exact q2
 ·exact World.cell?_setCell_same w2 ⟨b,0,none⟩ _ (by rw[q1])
 ·have he:Pb (l++[YP x])=Pb l++[.int .u8 (x%256)]:=by rw[MJ];simp[Pb,WV]
  rw[he];refine hG2.block (by simp[World.setCell]) (fun k _ hk=>Below.heap_setCell w2 ⟨b,0,none⟩ _ k (fun e=>?_));have:=hG2.ge k hk;have e':k=b:=e;omega
 ·refine(hW.grown hgrow (by simp;omega) (fun k hk=>by have:=h3.ge k hk;omega)).setCell (p:=⟨b,0,none⟩) (Nat.le_refl _) _
theorem SG (b base:Nat) (l:List UInt8) (x:Int) (w:World) (hb:base<=w.heap.size) (hl:l.length<=900000) (h:Wr b base l w):
  Calls Try.prog 45 #[.pointer (some ⟨b,0,none⟩),.int .i64 x] w (Wv b base w (l++[YP (x/256),YP x])):=by
 have H1:=hyd (X6 b base l (x/256) w hb (by omega) h);have H2:Hid (∀w',Wr b base (l++[YP (x/256)]) w'->base<=w'.heap.size->Calls Try.prog 44 #[.pointer (some ⟨b,0,none⟩),.int .i64 x] w' (Wv b base w' ((l++[YP (x/256)])++[YP x]))):=fun w' h' hb'=>X6 b base _ x w' hb' (by simp;omega) h'
 clear h;go_enter Try.func45,Try.ntmps45;go_wp2_with fail;refine H1.out.mono ?_;rintro e w1 ⟨rfl,h1,hW1⟩;go_wp2_with fail;refine(H2.out w1 h1 (Nat.le_trans hb hW1.size)).mono ?_;rintro e w2 ⟨rfl,h2,hW2⟩;go_wp2_with fail;go_end0;exact⟨rfl,by simpa using h2,hW1.trans hW2⟩
def Ut (f:Nat->Int) (n:Nat) (more:Int):List UInt8:=(List.range n).map fun i=>YP (f i+more)
theorem Ly (f:Nat->Int) (n:Nat) (more:Int):Ut f (n+1) more=Ut f n more++[YP (f n+more)]:=by simp[Ut,List.range_succ]
theorem VH (f:Nat->Int) (n:Nat) (more:Int):(Ut f n more).length=n:=by simp[Ut]
def WU (f:Nat->Int) (n:Nat) (wide:Int):List UInt8:=(List.range n).flatMap fun i=>if wide=2 then [YP (f i/256),YP (f i)] else [YP (f i)]
theorem UR (f:Nat->Int) (n:Nat) (wide:Int):WU f (n+1) wide=WU f n wide++(if wide=2 then [YP (f n/256),YP (f n)] else [YP (f n)]):=by simp[WU,List.range_succ]
theorem TX (f:Nat->Int) (wide:Int):∀n,(WU f n wide).length<=2*n
 |0=>by simp[WU]
 |n+1=>by
  rw[UR,List.length_append];have:=TX f wide n;split<;>(simp;omega)
def Xi (f g:Nat->Int) (n:Nat):List UInt8:=(List.range n).flatMap fun i=>[YP (f i+1),YP (g i+1)]
theorem Su (f g:Nat->Int) (n:Nat):Xi f g (n+1)=Xi f g n++[YP (f n+1),YP (g n+1)]:=by simp[Xi,List.range_succ]
theorem TZ (f g:Nat->Int):∀n,(Xi f g n).length=2*n
 |0=>by simp[Xi]
 |n+1=>by rw[Su,List.length_append,TZ f g n];simp;omega
theorem U5 (b base:Nat) (l:List UInt8) (ad:Option Addr) (n cap:Nat) (f:Nat->Int) (more:Int) (w0 w:World) (hb:base<=w.heap.size) (hl:l.length+n<=900000) (hm:0<=more/\more<=1) (hf:∀i,i<n->-1<=f i/\f i<=1000000)
  (hb0:w0.heap.size<=b) (hI:IL ad f n w0) (hW0:Below w0.heap.size w0 w) (h:Wr b base l w):
  Calls Try.prog 46 #[.pointer (some ⟨b,0,none⟩),.slice ad n cap,.int .i64 more] w (Wv b base w (l++Ut f n more)):=by
 have HI:=hyd hI;have HF:=hyd hf;clear hI hf;go_enter Try.func46,Try.ntmps46;go_wp2_with fail
 go_loopw [10] (fun i w'=>∃k:Nat,k<=n/\i=.int .i64 k/\Wr b base (l++Ut f k more) w'/\Below b w w') (fun i _=>n-(intOf i).toNat)
 case atStart=>exact⟨0,by omega,rfl,by simpa[Ut]using h,Below.refl _ _⟩
 case round=>
  obtain⟨k,hk,rfl,hWr,hW⟩:=hrel;by_cases hlt:k<n
  ·have hlt':(k:Int)<n:=by omega
   obtain⟨b1,o1,rfl,c1⟩:=HI.out.below (hW0.trans (hW.mono hb0)) k hlt;have hfk:=HF.out k hlt;have HP:Hid (Calls Try.prog 44 #[.pointer (some ⟨b,0,none⟩),.int .i64 (f k+more)] wr (Wv b base wr (l++Ut f (k+1) more))):=by
    have:=X6 b base (l++Ut f k more) (f k+more) wr (Nat.le_trans hb hW.size) (by rw[List.length_append,VH];omega) hWr;rw[List.append_assoc,<-Ly]at this;exact this
   generalize f k=x at *;go_wp2_with fail;refine HP.out.mono ?_;rintro e w2 ⟨rfl,h2,hW2⟩;go_wp2_with fail;go_roundw
   case rel=>exact⟨k+1,by omega,by go_num,h2,hW.trans hW2⟩
   case measure=>simp[intOf];omega
  ·have hge:¬(k:Int)<n:=by omega
   have hkn:k=n:=by omega
   subst hkn;go_wp2_with fail;go_end0;exact⟨rfl,hWr,hW⟩
theorem PG (b base:Nat) (l:List UInt8) (ad:Option Addr) (n cap:Nat) (f:Nat->Int) (wide:Int) (w0 w:World) (hb:base<=w.heap.size) (hl:l.length+2*n<=900000)
  (hb0:w0.heap.size<=b) (hI:IL ad f n w0) (hW0:Below w0.heap.size w0 w) (h:Wr b base l w):
  Calls Try.prog 47 #[.pointer (some ⟨b,0,none⟩),.slice ad n cap,.int .i64 wide] w (Wv b base w (l++WU f n wide)):=by
 have HI:=hyd hI;clear hI;go_enter Try.func47,Try.ntmps47;go_wp2_with fail
 go_loopw [10] (fun i w'=>∃k:Nat,k<=n/\i=.int .i64 k/\Wr b base (l++WU f k wide) w'/\Below b w w') (fun i _=>n-(intOf i).toNat)
 case atStart=>exact⟨0,by omega,rfl,by simpa[WU]using h,Below.refl _ _⟩
 case round=>
  obtain⟨k,hk,rfl,hWr,hW⟩:=hrel;by_cases hlt:k<n
  ·have hlt':(k:Int)<n:=by omega
   obtain⟨b1,o1,rfl,c1⟩:=HI.out.below (hW0.trans (hW.mono hb0)) k hlt;have hlen:=TX f wide k;by_cases h2:wide=2
   ·have HP:Hid (Calls Try.prog 45 #[.pointer (some ⟨b,0,none⟩),.int .i64 (f k)] wr (Wv b base wr (l++WU f (k+1) wide))):=by
     have:=SG b base (l++WU f k wide) (f k) wr (Nat.le_trans hb hW.size) (by rw[List.length_append];omega) hWr;rw[List.append_assoc]at this;rw[UR,if_pos h2];exact this
    subst h2;generalize f k=x at *;go_wp2_with fail;refine HP.out.mono ?_;rintro e w2 ⟨rfl,h2,hW2⟩;go_wp2_with fail;go_roundw
    case rel=>exact⟨k+1,by omega,by go_num,h2,hW.trans hW2⟩
    case measure=>simp[intOf];omega
   ·have HP:Hid (Calls Try.prog 44 #[.pointer (some ⟨b,0,none⟩),.int .i64 (f k)] wr (Wv b base wr (l++WU f (k+1) wide))):=by
     have:=X6 b base (l++WU f k wide) (f k) wr (Nat.le_trans hb hW.size) (by rw[List.length_append];omega) hWr;rw[List.append_assoc]at this;rw[UR,if_neg h2];exact this
    have q1:(wide==2)=false:=by simpa using h2
    generalize f k=x at *;go_wp2_with fail;refine HP.out.mono ?_;rintro e w2 ⟨rfl,h2,hW2⟩;go_wp2_with fail;go_roundw
    case rel=>exact⟨k+1,by omega,by go_num,h2,hW.trans hW2⟩
    case measure=>simp[intOf];omega
  ·have hge:¬(k:Int)<n:=by omega
   have hkn:k=n:=by omega
   subst hkn;go_wp2_with fail;go_end0;exact⟨rfl,hWr,hW⟩
theorem PH (b base:Nat) (l:List UInt8) (ad ad':Option Addr) (n cap cap':Nat) (f f':Nat->Int) (w0 w:World) (hb:base<=w.heap.size) (hl:l.length+2*n<=900000) (hf:∀i,i<n->(-1<=f i/\f i<=1000000)/\(-1<=f' i/\f' i<=1000000))
  (hb0:w0.heap.size<=b) (hI:IL ad f n w0) (hI':IL ad' f' n w0) (hW0:Below w0.heap.size w0 w) (h:Wr b base l w):
  Calls Try.prog 48 #[.pointer (some ⟨b,0,none⟩),.slice ad n cap,.slice ad' n cap'] w (Wv b base w (l++Xi f f' n)):=by
 have HI:=hyd hI;have HI':=hyd hI';have HF:=hyd hf;clear hI hI' hf;go_enter Try.func48,Try.ntmps48;go_wp2_with fail
 go_loopw [10] (fun i w'=>∃k:Nat,k<=n/\i=.int .i64 k/\Wr b base (l++Xi f f' k) w'/\Below b w w') (fun i _=>n-(intOf i).toNat)
 case atStart=>exact⟨0,by omega,rfl,by simpa[Xi]using h,Below.refl _ _⟩
 case round=>
  obtain⟨k,hk,rfl,hWr,hW⟩:=hrel;by_cases hlt:k<n
  ·have hlt':(k:Int)<n:=by omega
   obtain⟨b1,o1,rfl,c1⟩:=HI.out.below (hW0.trans (hW.mono hb0)) k hlt;have hfk:=HF.out k hlt;have hlen:=TZ f f' k;have HP:Hid (Calls Try.prog 44 #[.pointer (some ⟨b,0,none⟩),.int .i64 (f k+1)] wr (Wv b base wr (l++Xi f f' k++[YP (f k+1)]))):=
    X6 b base (l++Xi f f' k) (f k+1) wr (Nat.le_trans hb hW.size) (by rw[List.length_append];omega) hWr
   have HP2:Hid (∀w',Wr b base (l++Xi f f' k++[YP (f k+1)]) w'->base<=w'.heap.size->Calls Try.prog 44 #[.pointer (some ⟨b,0,none⟩),.int .i64 (f' k+1)] w' (Wv b base w' (l++Xi f f' (k+1)))):=fun w' h' hb'=>by
    have:=X6 b base (l++Xi f f' k++[YP (f k+1)]) (f' k+1) w' hb' (by simp only[List.length_append,List.length_cons,List.length_nil];omega) h';rw[List.append_assoc,List.append_assoc]at this;rw[Su];exact this
   have HC:Hid (∀w',Below b wr w'->∃b2 o2,ad'=some ⟨b2,o2,none⟩/\w'.cell? ⟨b2,o2+k,none⟩=some (.int .i64 (f' k))):=fun w' h'=>HI'.out.below (hW0.trans ((hW.trans h').mono hb0)) k hlt
   generalize f k=x at *;generalize f' k=x' at *;go_wp2_with fail;refine HP.out.mono ?_;rintro e w2 ⟨rfl,h2,hW2⟩;obtain⟨b2,o2,rfl,c2⟩:=HC.out w2 hW2;go_wp2_with fail;refine(HP2.out w2 h2 (Nat.le_trans (Nat.le_trans hb hW.size) hW2.size)).mono ?_;rintro e w3 ⟨rfl,h3,hW3⟩;go_wp2_with fail;go_roundw
   case rel=>exact⟨k+1,by omega,by go_num,h3,(hW.trans hW2).trans hW3⟩
   case measure=>simp[intOf];omega
  ·have hge:¬(k:Int)<n:=by omega
   have hkn:k=n:=by omega
   subst hkn;go_wp2_with fail;go_end0;exact⟨rfl,hWr,hW⟩
end Go.Proofs.Ytoaaklhpmhjhkab
