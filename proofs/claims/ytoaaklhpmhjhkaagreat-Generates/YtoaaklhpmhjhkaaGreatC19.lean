import Derived.Test.YtoaaklhpmhjhkaaGreatC18
set_option maxRecDepth 100000
set_option maxHeartbeats 4000000
set_option linter.all false
namespace Go.Proofs.YtoaaklhpmhjhkaaGreat
section
open Go.RowKit
open Bm
def UL (N:Nat) (D:Nat->List Value):List Value:=(List.range N).flatMap D
theorem U5 (N:Nat) (D:Nat->List Value):UL (N+1) D=UL N D++D N:=by simp[UL,ZT]
variable {a:Act}{ops:Array Oper}{Q:Exit->Act->World->Prop}{l:List (N_)}{t0:List Int}{kids:List Nat}{rest:List Oper}{xs:List Value}{N P R b base cap g gb i k kind n q size tb:Nat}{F f:N_}{Ns ix nd ti:Nat->Nat}{E:Nat->N_}{nx:Nat->Nat->Int}{S S' S1 S2:Nat->Prop}{o op:Oper}{v v1 v2 vk vr:Value}{W w w' w1 w2 w5:World}
theorem SV {D E:Nat->List Value} (h:∀i,i<N->D i=E i):UL N D=UL N E:=by
 induction N with
 |zero=>rfl
 |succ N ih=>rw[U5,U5,ih (λi a=>h i (by omega)),h N (by omega)]
theorem Vh {D:Nat->List Value} (h:∀i,(D i).length=5):(UL N D).length=N*5:=by
 induction N with
 |zero=>rfl
 |succ N ih=>rw[U5,Zl,ih,h];omega
theorem U4 {D:Nat->List Value} (h:∀i,(D i).length=5) (i j:Nat) (y:i<N) (z:j<5):(UL N D)[i*5+j]?=(D i)[j]?:=by
 induction N with
 |zero=>omega
 |succ N ih=>
  rw[U5];by_cases e:i<N
  ·rw[Zv (by rw[Vh h];omega)];exact ih e
  have:i=N:=by omega
  subst this;rw[ZG (by rw[Vh h];omega),Vh h,Nat.add_sub_cancel_left]
theorem Mi {D:Nat->List Value} (h:∀i,(D i).length=5) (k j:Nat) (_hk:k<N) (y:j<5) (u:Value):(UL N D).set (k*5+j) u=UL N (λi=>if i=k then (D k).set j u else D i):=by
 have d:∀i,((λi=>if i=k then (D k).set j u else D i) i).length=5:=λi=>by
  by_cases e:i=k
  ·simp[e,h]
  simp[e,h]
 refine List.ext_getElem? (λx=>?_);rcases ZD x (N*5)with hx|hx
 ·have f:x/5<N:=Nat.div_lt_of_lt_mul (by omega);have g:=Nat.mod_lt x (show 0<5 by omega);have l:x/5*5+x%5=x:=by have:=Nat.div_add_mod x 5;omega
  have b:=U4 h (x/5) (x%5) f g;have c:=U4 d (x/5) (x%5) f g;rw[l]at b c;rw[c];by_cases e:x=k*5+j
  ·have⟨a,e2⟩:x/5=k/\x%5=j:=by omega
   rw[e,List.getElem?_set_self (by rw[Vh h];omega)];rw[<-e,a,e2];simp only[if_true];rw[List.getElem?_set_self (by rw[h];omega)]
  rw[List.getElem?_set_ne (λq=>e q.symm),b];by_cases a:x/5=k
  ·simp only[a,if_true];rw[List.getElem?_set_ne (λq=>e (by omega))]
  simp only[a,if_false]
 rw[ZB (by simp[Vh h];omega),ZB (by rw[Vh d];omega)]
structure Pa where
 vin:Nat->Value
 ka:Nat->Option Addr
 kc:Nat->Nat
def MT (T:Nat->Nd) (m:Pa) (i:Nat):List Value:=Vq (T i) (m.vin i) (m.ka i) (m.kc i)
theorem TX (T:Nat->Nd) (m:Pa) (i:Nat):(MT T m i).length=5:=rfl
def Wq (S:Nat->Prop) (w w':World):Prop:=∀k,S k->w'.heap[k]?=w.heap[k]?
theorem Wq.refl (S:Nat->Prop) (w:World):Wq S w w:=λ_ _=>rfl
theorem Wq.trans (a:Wq S w w1) (b:Wq S w1 w2):Wq S w w2:=λk c=>(b k c).trans (a k c)
structure TF (tb:Nat) (v v':Value) (S S':Nat->Prop) (w w':World):Prop where
 b:Below tb w w'
 k:∀k,k<w.heap.size->k≠tb->v.ownBlock≠some k->w'.heap[k]?=w.heap[k]?
 o:∀k,v'.ownBlock=some k->v.ownBlock=some k\/w.heap.size<=k
 s:∀k,S' k->S k\/w.heap.size<=k
theorem TF.of (v:Value) (S:Nat->Prop) {w w':World} (y:tb<=w.heap.size) (h:Bl w w'):TF tb v v S S w w':=⟨h.mono y,λk a _ _=>h.block k a,λ_ h=>Or.inl h,λ_ h=>Or.inl h⟩
theorem TF.trans (a:TF tb v v1 S S1 w w1) (b:TF tb v1 v2 S1 S2 w1 w2):TF tb v v2 S S2 w w2:=by
 have hs:=a.b.size;refine⟨a.b.trans b.b,λk c h1 h2=>?_,λk c=>?_,λk c=>?_⟩
 ·rw[b.k k (by omega) h1 (λe=>?_),a.k k c h1 h2];rcases a.o k e with h|h
  ·exact h2 h
  omega
 ·rcases b.o k c with h|h
  ·exact a.o k h
  exact Or.inr (by omega)
 rcases b.s k c with h|h
 ·exact a.s k h
 exact Or.inr (by omega)
structure PF (S:Nat->Prop) (T:Nat->Nd) (m:Pa) (N M:Nat) (w:World):Prop where
 o:∀i,i<N->(m.vin i).oneCell'=true
 k:∀i,i<N->∀w',Wq S w w'->IL (m.ka i) (fun k=>(((T i).kids.getD k 0:Nat):Int)) (T i).kids.length w'
 i:∀i,i<N->i<M->(T i).kind=0->∃ia ic,m.vin i=.slice ia 256 ic/\∀w',Wq S w w'->BR ia (T i).inn 256 w'
variable {T:Nat->Nd}
theorem PF.move {m:Pa}{M:Nat} (h:PF S T m N M w) (f:Wq S w w') (y:∀k,S k->S' k):PF S' T m N M w':=
 ⟨h.o,λi a w2 h2=>h.k i a w2 (f.trans (λk b=>h2 k (y k b))),λi a d h0=>by
  obtain⟨g,j,e,c⟩:=h.i i a d h0;exact⟨g,j,e,λw2 h2=>c w2 (f.trans (λk b=>h2 k (y k b)))⟩⟩
variable {T':Nat->Nd}
theorem PF.congr {m:Pa}{M:Nat} (h:PF S T m N M w) (e:∀i,i<N->(T' i).kind=(T i).kind/\(T' i).kids=(T i).kids/\(T' i).inn=(T i).inn):PF S T' m N M w:=
 ⟨h.o,λi a w2 h2=>by rw[(e i a).2.1];exact h.k i a w2 h2,λi a b h0=>by rw[(e i a).2.2];exact h.i i a b (by rw[<-(e i a).1];exact h0)⟩
structure TW (tb base:Nat) (T:Nat->Nd) (N M:Nat) (v vr:Value) (S:Nat->Prop) (w:World):Prop where
 c:TC tb [v,vr] w
 o:∃m:Pa,w.ownsRow base 118 5 v N (UL N (MT T m))/\PF S T m N M w
 s:∀k,S k->k<w.heap.size/\k≠tb/\v.ownBlock≠some k
theorem TW.blk {M:Nat} (h:TW tb base T N M v vr S w):∀k,v.ownBlock=some k->base<=k/\k<w.heap.size:=by
 obtain⟨m,h1,_⟩:=h.o;exact h1.lt
theorem XH {e:TypeId} (h:w.ownsRow base e size v n xs) (y:∀k,v.ownBlock=some k->w'.heap[k]?=w.heap[k]?):w'.ownsRow base e size v n xs:=by
 refine⟨h.1,?_⟩;rcases h.2 with h0|⟨g,cap,a,rfl,h1,h2,h3⟩
 ·exact Or.inl h0
 exact Or.inr ⟨g,cap,a,rfl,h1,by rw[y g rfl];exact h2,h3⟩
theorem TW.keep {M:Nat} (h:TW tb base T N M v vr S w) (hs:w.heap.size<=w'.heap.size) (y:∀k,k=tb\/v.ownBlock=some k\/S k->w'.heap[k]?=w.heap[k]?):TW tb base T N M v vr S w':=by
 obtain⟨m,h1,h2⟩:=h.o;exact⟨h.c.block (y tb (Or.inl rfl)),⟨m,XH h1 (λk a=>y k (Or.inr (Or.inl a))),h2.move (λk a=>y k (Or.inr (Or.inr a))) (λ_ h=>h)⟩,λk a=>⟨by have:=(h.s k a).1;omega,(h.s k a).2⟩⟩
theorem TW.below {M:Nat} (h:TW tb base T N M v vr S w) (y:Bl w w'):TW tb base T N M v vr S w':=
 h.keep y.size (λk a=>y.block k (by
  rcases a with h1|h1|h1
  ·rw[h1];exact h.c.lt
  ·exact(h.blk k h1).2
  exact(h.s k h1).1))
theorem TW.tr {M:Nat} (h:TW tb base T N M v vr S w) (y:N<=M):TR tb T N w:=by
 obtain⟨m,h1,h2⟩:=h.o;have c0:=(h.c 0 _ rfl).1;rcases h1.2 with ⟨rfl,h0⟩|⟨g,cap,f,rfl,_⟩
 ·subst h0;exact⟨none,0,c0,λi a=>by omega⟩
 refine⟨some (a_ g 0),cap,c0,λi a=>⟨g,0,m.vin i,m.ka i,m.kc i,rfl,λj u b=>?_,h2.o i a,h2.k i a w (Wq.refl _ _),λhz=>?_⟩⟩
 ·have n:j<5:=by have:=(Zi.1 b).1;exact this
  have d:=h1.cells (g:=g) rfl (i*5+j) u (by rw[U4 (TX T m) i j a n];exact b);rw[Addr.add_lit,Zn]at d;rw[Zn];exact d
 obtain⟨p,q,e,l⟩:=h2.i i a (by omega) hz;exact⟨p,q,e,l w (Wq.refl _ _)⟩
theorem TW.more (h:TW tb base T (N+1) N v vr S w) (hz:(T N).kind≠0):TW tb base T (N+1) (N+1) v vr S w:=by
 obtain⟨m,h1,h2⟩:=h.o;refine⟨h.c,⟨m,h1,h2.o,h2.k,λi a _ h0=>h2.i i a ?_ h0⟩,h.s⟩;rcases ZD i N with h|h
 ·exact h
 have:i=N:=by omega
 rw[this]at h0;exact absurd h0 hz
theorem TW.new (tb base:Nat) (vr:Value) (w:World) (y:TC tb [sN,vr] w) (T:Nat->Nd):TW tb base T 0 0 (sN) vr (λ_=>False) w:=
 ⟨y,⟨⟨λ_=>.int .i64 0,λ_=>none,λ_=>0⟩,⟨rfl,Or.inl ⟨rfl,rfl⟩⟩,λi a=>by omega,λi a=>by omega,λi a=>by omega⟩,λk h=>h.elim⟩
def K1 (P:Nat->Prop) (vk:Value) (kids:List Nat) (w:World):Prop:=∃ka kc,vk=.slice ka kids.length kc/\∀w',Wq P w w'->IL ka (λk=>((kids.getD k 0:Nat):Int)) kids.length w'
theorem K1.nil (w:World):K1 (λ_=>False) (sN) [] w:=⟨none,0,rfl,λw' _ i a=>by simp at a⟩
theorem Sv (kids:List Nat) (k:Nat):(kids.map (λx:Nat=>(x:Int))).getD k 0=((kids.getD k 0:Nat):Int):=by
 simp only[Zf,List.getElem?_map];cases kids[k]?<;>rfl
theorem K1.of (h:OwnL b vk (kids.map (λx:Nat=>(x:Int))) w):K1 (λk=>vk.ownBlock=some k) vk kids w:=by
 obtain⟨ad,cap,e,il⟩:=h.il;rw[Zy]at e;refine⟨ad,cap,e,λw' m i n=>?_⟩;have l:=h.keep (λk p=>m k p);obtain⟨j,c,e',a⟩:=l.il;rw[e,Zy]at e';cases e';obtain⟨g,o,d,f⟩:=a i (by rw[Zy];exact n);refine⟨g,o,d,?_⟩;rw[f];simp only[Sv]
theorem Gn:∃i,Tryz.prog.info? 118=some i/\i.zero=some (.agg Q1.toArray)/\i.size=5/\i.bytes=72:=by
 have h:(Tryz.prog.info? 118).isSome=true:=by kernel_rfl
 obtain⟨i,a⟩:=Zx.1 h;refine⟨i,a,?_,?_,?_⟩
 ·have:((Tryz.prog.info? 118).bind (·.zero))=some (.agg Q1.toArray):=by kernel_rfl
  rw[a]at this;simpa using this
 ·have:((Tryz.prog.info? 118).map (·.size))=some 5:=by kernel_rfl
  rw[a]at this;simpa using this
 have:((Tryz.prog.info? 118).map (·.bytes))=some 72:=by kernel_rfl
 rw[a]at this;simpa using this
theorem LW (cs:List Value) (y:cs.length=5) (w:World):(Instr.buildSlice 114 1 #[(0,.agg cs.toArray)]).run Tryz.prog w=.ok (.slice (some (a_ w.heap.size 0)) 1 1) (w.alloc (.cells cs.toArray 118)):=by
 have hs:(sizeOf 118).run Tryz.prog w=.ok 5 w:=by kernel_rfl
 have hz:=Vl w;have a:=NI (λi=>some (i*5,5)) ((Array.range (1*5)).map (Q1.toArray[·%Q1.toArray.size]!)) (.agg cs.toArray) 5 rfl (by simp[Value.cells,y]) (by simp);have b:(Value.agg cs.toArray).cells=cs.toArray:=rfl;have e2:(Value.agg #[I6 0,sN,sN,I6 0,I6 0]).cells=Q1.toArray:=rfl;rw[b]at a;simp only[Instr.buildSlice,Sem.run_bind,run_underlying Tryz.underlying114,Zu,hs,Sem.run_ite,hz,e2,Sem.run_pure,a,newRow];simp
theorem PE (y:op.guard=none) (x:Operand) (H:op.op=.buildSlice 114 1 #[(0,x)])
  (cs:List Value) (z:cs.length=5) (J:a.eval x=.agg cs.toArray) (h:wpList Tryz.prog ops Q rest (a.put op.dst (.slice (some (a_ w.heap.size 0)) 1 1)) (w.alloc (.cells cs.toArray 118))):wpList Tryz.prog ops Q (op::rest) a w:=
 wpList_plain y λ_ b=>by
  unfold Oper.wp execOp;have c:=LW cs z w;have e:(#[((0:Nat),x)].map λ(p:Nat × Operand)=>(p.1,a.eval p.2))=#[(0,.agg cs.toArray)]:=by simp[J]
  simp only[H,Sem.run_bind,e,c,Zu,Sem.run_pure];exact b _ _ h
theorem RU (hgd:o.guard=none) (s x:Operand)
  (ho:o.op=.call { callee:=.builtin .append,args:=#[s,x],argTypes:=#[114,114] }) (base:Nat)
  (v:Value) (N:Nat) (xs:List Value) (hs:a.eval s=v) (hown:w.ownsRow base 118 5 v N xs) (hn:N<=1000000)
  (B:Nat) (cs:List Value) (hl:cs.length=5) (hone:∀u∈cs,u.oneCell'=true) (hx:a.eval x=sL B 1 1) (hnews:w.rangeAt B 0 cs) (hbase:base<=w.heap.size) (H:Nat) (hH:w.heap.size=H)
  (h:∀g cap w',w'.ownsRow base 118 5 (sL g (N+1) cap) (N+1) (xs++cs)->w.grownBy w' v.ownBlock->(v.ownBlock=some g\/g=H)->g<w'.heap.size->wpList Tryz.prog ops Q rest (a.put o.dst (sL g (N+1) cap)) w'):wpList Tryz.prog ops Q (o::rest) a w:=by
 obtain⟨i,e,b,c,d⟩:=Gn;exact wpList_append_lies w hgd s x 114 ho base 118 i _ 5 72 Tryz.underlying114 e b c d (by simp[Value.cells,Q1]) (by omega) v N xs hs hown (a_ B 0) 1 1 cs hx (by omega) (λj u f=>by rw[Addr.add_lit];exact hnews j u f) hone (by omega) (by unfold maxLen;omega) (by omega) hbase H hH h
theorem TW.poke {M:Nat} (h:TW tb base T N M (sL g N cap) vr S w) (H:tb<base) (k j:Nat) (z:k<N) (y:j<5) (u:Value)
  (h1:∀m i,i<N->MT T' m i=if i=k then (MT T m k).set j u else MT T m i) (h2:∀i,i<N->(T' i).kind=(T i).kind/\(T' i).kids=(T i).kids/\(T' i).inn=(T i).inn):
  TW tb base T' N M (sL g N cap) vr S (w.setCell (a_ g (k*5+j)) u):=by
 have n:=(h.blk g rfl).1;obtain⟨m,f,l⟩:=h.o;have b:∀q,q≠g->(w.setCell (a_ g (k*5+j)) u).heap[q]?=w.heap[q]?:=λq a=>Zq w (a_ g (k*5+j)) _ q (λe=>a e)
 refine⟨h.c.block (b tb (by omega)),⟨m,?_,(l.congr h2).move (λq a=>b q (λe=>(h.s q a).2.2 (by rw[e];rfl))) (λ_ h=>h)⟩,λq a=>⟨by rw[Zz];exact(h.s q a).1,(h.s q a).2⟩⟩;have:=(f.stored (k*5+j) u).1;rw[Mi (TX T m) k j z y,SV (E:=MT T' m) (λi d=>(h1 m i d).symm)]at this;exact this
theorem TF.poke (h:TF tb v (sL g n cap) S S' w w') (y:tb<=g) (q:Nat) (u:Value):TF tb v (sL g n cap) S S' w (w'.setCell (a_ g q) u):=
 ⟨h.b.setCell (p:=(a_ g q)) y u,λk a h1 h2=>by
  rw[Zq w' (a_ g q) _ k (λe=>?_)]
  ·exact h.k k a h1 h2
  have e':=e;subst e';rcases h.o k rfl with h3|h3
  ·exact h2 h3
  omega,h.o,h.s⟩
def RH (kind:Nat) (kids:List Nat):Nd:=⟨kind,kids,-1,0,λ_=>false⟩
def UW (T:Nat->Nd) (N kind:Nat) (kids:List Nat) (i:Nat):Nat->Nd:=λn=>
 if n=N then RH kind kids else if n∈kids.take i then { T n with up:=N,at_:=kids.idxOf n } else T n
theorem Ei (T:Nat->Nd) (N kind:Nat) (kids:List Nat):UW T N kind kids kids.length=Yx T N kind kids (fun _=>false):=by
 funext n
 unfold UW Yx RH;rw[List.take_length]
theorem Cg (T:Nat->Nd) (N kind:Nat) (kids:List Nat) (i n:Nat):(UW T N kind kids i n).kind=(UW T N kind kids 0 n).kind/\(UW T N kind kids i n).kids=(UW T N kind kids 0 n).kids/\(UW T N kind kids i n).inn=(UW T N kind kids 0 n).inn:=by
 unfold UW;by_cases h:n=N
 ·simp[h]
 simp only[h,if_false,List.take_zero,List.not_mem_nil];split<;>exact⟨rfl,rfl,rfl⟩
def IG (T:Nat->Nd) (N kind:Nat) (kids:List Nat) (i k:Nat):Nat->Nd:=λn=>if n=k then { UW T N kind kids i n with up:=N } else UW T N kind kids i n
theorem Ma (z:kids.Nodup) (y:kids[i]?=some k) (H:k<N) (n:Nat):UW T N kind kids (i+1) n=if n=k then { IG T N kind kids i k n with at_:=i } else IG T N kind kids i k n:=by
 obtain⟨c,b⟩:=Zi.1 y;have a:kids.idxOf k=i:=by rw[<-b];exact z.idxOf_getElem i c
 unfold IG UW;rw[List.take_add_one,y];by_cases h:n=k
 ·subst h;have d:¬n=N:=by omega
  simp only[if_true,d,if_false,Option.toList_some,ZU,ZC,or_true,a];split<;>rfl
 by_cases h2:n=N
 ·subst h2;simp[h]
 simp only[h,h2,if_false,Option.toList_some,ZU,ZC,or_false]
theorem I4 {P:Nat->Prop}{ka:Option Addr}{kc:Nat}{m:Pa} (J:TW tb base T N N v vr S w) (o2:PF S T m N N w) (hK:∀w',Wq P w w'->IL ka (λk=>((kids.getD k 0:Nat):Int)) kids.length w') (hP:∀k,P k->k<w.heap.size/\k≠tb/\v.ownBlock≠some k) (aa:tb<base) (_hb:base<=w.heap.size)
  (Z:Bl w W) (hO:w5.ownsRow base 118 5 (sL g (N+1) cap) (N+1) (UL N (MT T m)++Vq (RH kind kids) (sN) ka kc)) (hg:W.grownBy w5 v.ownBlock) (Y:v.ownBlock=some g\/g=W.heap.size):
  TW tb base (UW T N kind kids 0) (N+1) N (sL g (N+1) cap) vr (λk=>S k\/P k) (w5.setCell (a_ tb 0) (sL g (N+1) cap))/\TF tb v (sL g (N+1) cap) S S w (w5.setCell (a_ tb 0) (sL g (N+1) cap)):=by
 have F:=Z.size;have D:=hg.size;have y:=J.c.lt;have B:=(hO.lt g rfl).1;have n:=J.blk;obtain⟨r,f⟩:∃r,r=w5.setCell (a_ tb 0) (sL g (N+1) cap):=⟨_,rfl⟩;have j:∀k,k≠tb->r.heap[k]?=w5.heap[k]?:=λk a=>by rw[f];exact Zq w5 (a_ tb 0) _ k (λe=>a e)
 have E:r.heap.size=w5.heap.size:=by rw[f,Zz]
 have b:∀k,k<w.heap.size->k≠tb->v.ownBlock≠some k->r.heap[k]?=w.heap[k]?:=λk h1 h2 h3=>by
  rw[j k h2,hg.block k (by omega) (λe=>h3 e.symm),Z.block k h1]
 have c5:TC tb [v,vr] w5:=J.c.block (by rw[hg.block tb (by omega) (λe=>by have:=(n tb e.symm).1;omega),Z.block tb y]);have d:∀i,i<N->UW T N kind kids 0 i=T i:=λi l=>by
  unfold UW;rw[g_,List.take_zero,if_neg (by simp)]
 have new:UW T N kind kids 0 N=RH kind kids:=by unfold UW;rw[if_pos rfl]
 rw[<-f];refine⟨⟨by rw[f];exact c5.set 0 (by simp) _,⟨⟨λi=>if i=N then sN else m.vin i,λi=>if i=N then ka else m.ka i,λi=>if i=N then kc else m.kc i⟩,?_,?_⟩,λk a=>?_⟩,?_,b,λk a=>?_,λk a=>Or.inl a⟩
 ·have e:UL (N+1) (MT (UW T N kind kids 0) ⟨λi=>if i=N then sN else m.vin i,λi=>if i=N then ka else m.ka i,λi=>if i=N then kc else m.kc i⟩)=UL N (MT T m)++Vq (RH kind kids) (sN) ka kc:=by
   rw[U5];congr 1
   ·refine SV (λi l=>?_);have x:¬i=N:=by omega
    simp only[MT,d i l,x,if_false]
   simp only[MT,new,if_true]
  rw[e];exact XH hO (λk a=>j k (by cases a;show g≠tb;omega))
 ·refine⟨λi l=>?_,λi l w' t=>?_,λi l u h0=>?_⟩
  ·by_cases e:i=N
   ·simp only[e,if_true];rfl
   simp only[e,if_false];exact o2.o i (by omega)
  ·by_cases e:i=N
   ·subst e;simp only[if_true,new];exact hK w' (λk a=>by rw[t k (Or.inr a)];exact b k (hP k a).1 (hP k a).2.1 (hP k a).2.2)
   simp only[e,if_false,d i (by omega)];exact o2.k i (by omega) w' (λk a=>by rw[t k (Or.inl a)];exact b k (J.s k a).1 (J.s k a).2.1 (J.s k a).2.2)
  have e:¬i=N:=by omega
  rw[d i u]at h0 ⊢;obtain⟨G,H,A,e2⟩:=o2.i i u u h0;refine⟨G,H,by simp only[e,if_false];exact A,λw' t=>e2 w' (λk a=>by rw[t k (Or.inl a)];exact b k (J.s k a).1 (J.s k a).2.1 (J.s k a).2.2)⟩
 ·have h1:k<w.heap.size/\k≠tb/\v.ownBlock≠some k:=by
   rcases a with h|h
   ·exact J.s k h
   exact hP k h
  refine⟨by omega,h1.2.1,λe=>?_⟩;have e':g=k:=Zh e;rcases Y with h|h
  ·exact h1.2.2 (e'▸h)
  omega
 ·have z:Below tb w w5:=(Z.mono (by omega)).grown hg (by omega) (λq C=>by have:=(n q C).1;omega);rw[f];exact z.setCell (p:=(a_ tb 0)) (Zg _) _
 cases a;rcases Y with h|h
 ·exact Or.inl h
 exact Or.inr (by show w.heap.size<=g;omega)
theorem MD (tb base:Nat) (T:Nat->Nd) (N:Nat) (v vr:Value) (S P:Nat->Prop) (kind:Nat) (vk:Value) (kids:List Nat) (w:World) (hT:TW tb base T N N v vr S w) (hK:K1 P vk kids w) (hP:∀k,P k->k<w.heap.size/\k≠tb/\v.ownBlock≠some k)
  (hk:∀k∈kids,k<N) (hd:kids.Nodup) (ap:tb<base) (hb:base<=w.heap.size) (hN:N<=1000000) (hl:kids.length<=1000):
  Cp 148 #[pT tb,I6 kind,vk] w λe w'=>∃v',e=.returned (I6 N)/\TW tb base (Yx T N kind kids (λ_=>false)) (N+1) N v' vr (λk=>S k\/P k) w'/\TF tb v v' S S w w':=by
 have hz:=Vl;obtain⟨A,B,rfl,y⟩:=hK;obtain⟨n,Y⟩:=nam kids.length;have V:=hyd Y;have G:=hyd y;have D:=hyd hP;obtain⟨m,L,o2⟩:=hT.o;have af:∃na nc,v=.slice na N nc:=by
  rcases L.2 with ⟨h1,h2⟩|⟨g,cap,ai,h1,_⟩
  ·exact⟨none,0,by rw[h1,h2]⟩
  exact⟨_,_,h1⟩
 obtain⟨na,nc,hv⟩:=af;have Hv:=hyd hv;have c0:=(hT.c 0 _ rfl).1;rw[hv]at c0;have ae:=hT.c.lt;have al:(n:Int)<=1000:=by omega
 rw[<-Y];obtain⟨W,X⟩:=nam (w.alloc (.cells (Vq (RH kind kids) (sN) A B).toArray 118));have HW:=hyd X;have C:Bl w W:=by rw[X];exact box_bel _ _
 have r:W.rangeAt w.heap.size 0 (Vq (RH kind kids) (sN) A B):=by rw[X];exact(TC.boxed w _ _).range
 have oW:=XH L (λk hk=>C.block k (L.lt k hk).2);have I:base<=W.heap.size:=by have:=C.size;omega
 have p:Hid (∀u∈Vq (RH kind kids) (sN) A B,u.oneCell'=true):=by
  show ∀u∈_,_;intro u hu;simp only[Vq,ZR,List.not_mem_nil,or_false]at hu;rcases hu with rfl|rfl|rfl|rfl|rfl<;>rfl
 have F:Hid (Vq (RH kind kids) (sN) A B=[I6 kind,sN,.slice A n B,I6 (-1),I6 0]):=by show _=_;rw[Y];rfl
 have Z:Hid (∀w5,W.grownBy w5 v.ownBlock->TC tb [v,vr] w5):=λw5 hg=>hT.c.block (by rw[hg.block tb (by have:=C.size;omega) (λe=>by have:=(L.lt tb e.symm).1;omega),C.block tb ae])
 have HS:Hid (∀g cap w5,w5.ownsRow base 118 5 (sL g (N+1) cap) (N+1) (UL N (MT T m)++Vq (RH kind kids) (sN) A B)->W.grownBy w5 v.ownBlock->(v.ownBlock=some g\/g=W.heap.size)->TW tb base (UW T N kind kids 0) (N+1) N (sL g (N+1) cap) vr (λk=>S k\/P k) (w5.setCell (a_ tb 0) (sL g (N+1) cap))/\TF tb v (sL g (N+1) cap) S S w (w5.setCell (a_ tb 0) (sL g (N+1) cap))):=
  λg cap w5 h1 h2 h3=>I4 hT o2 y hP ap hb C h1 h2 h3
 clear hv hT y hP L o2 X Y;go_enter Tryz.func148,Tryz.ntmps148;go_wp2_with (first|(with_reducible show wpList _ _ _ (⟨_,Op.buildSlice 114 _ _,_,_,_,_⟩::_) _ _;refine X9.out ?_));refine⟨?_⟩;refine PE rfl _ rfl (Vq (RH kind kids) (sN) A B) rfl (by rw[F.out];rfl) ?_;rw[<-HW.out]
 (try simp only[psm])
 go_wp2_with (first|(at_builtin;refine RU (by rfl) _ _ (by rfl) base v N _ (by rw[Hv.out];rfl) oW hN w.heap.size _ rfl p.out (by rfl) r I _ rfl ?_;intro g cap w5 t a J ac;have c5:=(Z.out w5 a 0 _ rfl).1;have aa:=(Z.out w5 a 0 _ rfl).2));obtain⟨Q,M⟩:=HS.out g cap w5 t a J;have ak:=(t.lt g rfl).1;clear c5 aa t a HS Z r oW I HW C c0 p F ac J
 go_loopw [8] (λx w'=>∃i:Nat,i<=n/\x=I6 i/\TW tb base (UW T N kind kids i) (N+1) N (sL g (N+1) cap) vr (λk=>S k\/P k) w'/\TF tb v (sL g (N+1) cap) S S w w') (λx _=>n-(intOf x).toNat)
 ·exact⟨0,by omega,rfl,Q,M⟩
 clear Q M;obtain⟨i,hi,rfl,E,tf⟩:=hrel;by_cases am:i<n
 ·have ah:(i:Int)<n:=by omega
  obtain⟨k,d⟩:∃k,kids[i]?=some k:=⟨kids[i]'(by have:=V.out;omega),Zd _⟩;have K:=hk k (List.mem_of_getElem? d);have ag:(k:Int)<N+1:=by omega
  obtain⟨kb,ko,ek,ck⟩:=G.out wr (λq z=>tf.k q (D q z).1 (D q z).2.1 (D q z).2.2) i (by have:=V.out;omega);simp only[Zf,d,Option.getD_some]at ck;have ab:=(E.c 0 _ rfl).1;obtain⟨d3,f3⟩:(∃u,wr.cell? (a_ g (k*5+3))=some (I6 u))/\wr.frozen? (a_ g (k*5+3))=false:=by
   obtain⟨m',f,_⟩:=E.o;refine⟨⟨(UW T N kind kids i k).up,?_⟩,f.frozenAt _⟩;rw[f.cellAt _ (by omega),U4 (TX _ _) k 3 (by omega) (by omega)];rfl
  obtain⟨u3,d3⟩:=d3;have h:=E.poke (T':=IG T N kind kids i k) ap k 3 (by omega) (by omega) (I6 (N:Int)) (λm' j _=>by
   unfold IG MT;by_cases e:j=k
   ·subst e;simp only[if_true];rfl
   simp only[e,if_false]) (λj _=>by unfold IG;split<;>exact⟨rfl,rfl,rfl⟩)
  have l:=tf.poke (show tb<=g by omega) (k*5+3) (I6 (N:Int));obtain⟨U,h7⟩:=nam (wr.setCell (a_ g (k*5+3)) (I6 (N:Int)));rw[<-h7]at h l;have s:=(G U (λq z=>l.k q (D q z).1 (D q z).2.1 (D q z).2.2)) i (by have:=V.out;omega);obtain⟨an,ao,H,s⟩:=s;simp only[Zf,d,Option.getD_some]at s;rw[ek]at H;cases H;subst ek;have aj:=(h.c 0 _ rfl).1;obtain⟨d4,f4⟩:(∃u,U.cell? (a_ g (k*5+4))=some (I6 u))/\U.frozen? (a_ g (k*5+4))=false:=by
   obtain⟨m',f,_⟩:=h.o;refine⟨⟨(IG T N kind kids i k k).at_,?_⟩,f.frozenAt _⟩;rw[f.cellAt _ (by omega),U4 (TX _ _) k 4 (by omega) (by omega)];rfl
  obtain⟨u4,d4⟩:=d4;have R:=h.poke (T':=UW T N kind kids (i+1)) ap k 4 (by omega) (by omega) (I6 (i:Int)) (λm' j _=>by
   unfold MT;rw[Ma hd d K];by_cases e:j=k
   ·subst e;simp only[if_true];rfl
   ·simp only[e,if_false]) (λj _=>by
   rw[Ma hd d K];split<;>exact⟨rfl,rfl,rfl⟩)
  have O:=l.poke (show tb<=g by omega) (k*5+4) (I6 (i:Int));have b:=hyd2 R O;have H7:=hyd h7;clear E tf h l R O h7;go_wp2;refine wp_region_still_tail 11 (by kernel_rfl) (by kernel_rfl) ?_;simp only[ZK,List.take_zero,ZL,Zw];change wpStill _ _ wr.drew (λa'=>wpList _ _ _ _ a' wr.drew) _ _
  repeat still_step
  refine wpStill_nil ?_;go_wp2;rw[<-H7.out];clear ab ck d3 f3;refine wp_region_still_tail 11 (by kernel_rfl) (by kernel_rfl) ?_;simp only[ZK,List.take_zero,ZL,Zw];change wpStill _ _ U.drew.drew (λa'=>wpList _ _ _ _ a' U.drew.drew) _ _
  repeat still_step
  refine wpStill_nil ?_;go_wp2;go_roundw
  ·exact⟨i+1,by omega,by go_num,b.out.1.below (Zk _ _).drew.drew,b.out.2.trans (TF.of _ _ (ZM b.out.1.c.lt) (Zk _ _).drew.drew)⟩
  simp[intOf];omega
 have⟨hge,hin⟩:¬(i:Int)<n/\i=n:=by omega
 subst hin;go_wp2;go_ret;rw[V.out,Ei]at E;exact⟨rfl,_,E,tf⟩
structure GR (gb P R:Nat) (tr:Nat->Nat) (Ts:Nat->Nat->Nd) (Ns:Nat->Nat) (ti nd:Nat->Nat) (w:World):Prop where
 t:∃a c,w.cell? ⟨gb,0,none⟩=some (.slice a R c)/\∀r,r<R->∃b o,a=some ⟨b,o,none⟩/\w.cell? ⟨b,o+r,none⟩=some (.pointer (some ⟨tr r,0,none⟩))/\TR (tr r) (Ts r) (Ns r) w
 p:∃a c,w.cell? ⟨gb,1,none⟩=some (.slice a P c)/\IL a (fun i=>(ti i:Int)) P w
 n:∃a c,w.cell? ⟨gb,2,none⟩=some (.slice a P c)/\IL a (fun i=>(nd i:Int)) P w
 ok:∀p,p<P->ti p<R/\nd p<Ns (ti p)/\(Ts (ti p) (nd p)).kind=0
variable {tr:Nat->Nat}{Ts:Nat->Nat->Nd}
theorem GR.gl (h:GR gb P R tr Ts Ns ti nd w):GL gb P R w:=by
 obtain⟨a,c,h0,_⟩:=h.t;obtain⟨b,c1,h1,_⟩:=h.p;exact⟨⟨a,c,h0⟩,b,c1,h1⟩
theorem GR.below (h:GR gb P R tr Ts Ns ti nd w) (y:Bl w w'):GR gb P R tr Ts Ns ti nd w':=by
 obtain⟨a,c,h0,m⟩:=h.t;obtain⟨f,c1,h1,q⟩:=h.p;obtain⟨g,c2,h2,s⟩:=h.n;have j:=Ze w _ h0;have e:∀k,w'.cell? (a_ gb k)=w.cell? (a_ gb k):=λk=>y.cell (p:=(a_ gb k)) j
 refine⟨⟨a,c,by rw[e];exact h0,λr l=>?_⟩,⟨f,c1,by rw[e];exact h1,q.below y⟩,⟨g,c2,by rw[e];exact h2,s.below y⟩,h.ok⟩;obtain⟨b,o,i,c3,d⟩:=m r l;exact⟨b,o,i,by rw[y.cell (p:=(a_ b (o+r))) (Ze w _ c3)];exact c3,d.below y⟩
theorem ME (gb P R:Nat) (tr:Nat->Nat) (Ts:Nat->Nat->Nd) (Ns ti nd:Nat->Nat) (p b:Nat) (w:World) (hP:P<=1000000) (hR:R<=1000000) (aa:∀r,r<R->Ns r<=1000000) (hG:GR gb P R tr Ts Ns ti nd w) (hp:p<P) (hb:b<256):
  Cp 116 #[pT gb,I6 p,I6 b] w λe w'=>e=.returned (.bool ((Ts (ti p) (nd p)).inn b))/\Bl w w':=by
 obtain⟨H,x0,c0,l⟩:=hG.t;obtain⟨I,x1,c1,m⟩:=hG.p;obtain⟨J,x2,c2,o⟩:=hG.n;obtain⟨k1,i,q⟩:=hG.ok p hp;obtain⟨g1,W,z,u⟩:=m p hp;obtain⟨g2,X,e2,v⟩:=o p hp;subst z e2;obtain⟨t,g⟩:=nam (ti p);obtain⟨n,d⟩:=nam (nd p);simp only[<-g,<-d]at u v k1 i q ⊢;obtain⟨M,Y,A,K,E⟩:=l t k1;subst A;have h:=aa t k1;obtain⟨U,nc,x,f⟩:=E;obtain⟨nb,F,G,S,T,B,r,_,_,c⟩:=f n i;obtain⟨N,O,C,j⟩:=c q;subst B C;obtain⟨ib,Q,D,y⟩:=j b hb;subst D;have L:=r 1 _ rfl;obtain⟨s,a⟩:=nam (Ns t);rw[<-a]at h i x;obtain⟨V,k⟩:=nam ((Ts t n).inn b);rw[<-k]at y ⊢;have Z:(p:Int)<P:=by omega
 have⟨q2,q3⟩:(t:Int)<R/\(n:Int)<s:=by omega
 have q4:(b:Int)<256:=by omega
 clear l m o hG f c j r g d a k aa;go_enter Tryz.func116,Tryz.ntmps116;go_wp2
 go_quiet (fail)
 go_wp2;go_ret;exact⟨rfl,WL _ _ _⟩
def D8 (Ts:Nat->Nat->Nd) (ti nd:Nat->Nat) (p b:Nat):Bool:=(Ts (ti p) (nd p)).inn b
theorem FG (gb P R:Nat) (tr:Nat->Nat) (Ts:Nat->Nat->Nd) (Ns ti nd:Nat->Nat) (b:Nat) (w:World) (hP:P<=1000000) (hR:R<=1000000) (Z:∀r,r<R->Ns r<=1000000) (hG:GR gb P R tr Ts Ns ti nd w) (hb:b<256):
  Cp 54 #[pT gb,I6 b] w λe w'=>e=.returned (I6 (least (Kq (D8 Ts ti nd) P) b))/\Bl w w':=by
 have g:Hid (∀(p c:Nat) (w':World),p<P->c<256->Bl w w'->Cp 116 #[pT gb,I6 p,I6 c] w' λe w''=>e=.returned (.bool (D8 Ts ti nd p c))/\Bl w' w''):=λp c w' h1 h2 h=>ME gb P R tr Ts Ns ti nd p c w' hP hR Z (hG.below h) h1 h2
 have k:Hid (∃a x,∀w',Bl w w'->w'.cell? (a_ gb 1)=some (.slice a P x)):=by
  obtain⟨a,x,c,_⟩:=hG.p;exact⟨a,x,λw' h=>by rw[h.cell (p:=(a_ gb 1)) (Ze w _ c)];exact c⟩
 obtain⟨N,x1,n⟩:=k.out;have y:=hyd n;have J:(P:Int)<=1000000:=by omega
 have K:(b:Int)<256:=by omega
 obtain⟨hs,o⟩:=nam (D8 Ts ti nd);rw[<-o]at g ⊢;have F:=hyd (TE hs P 256);clear k n hG Z o;go_enter Tryz.func54,Tryz.ntmps54;go_wp2
 go_loopw [5] (λx w'=>∃a:Nat,a<=b/\x=I6 a/\Hid (∀c,c<a->Kq hs P c b=false)/\Bl w w') (λx _=>b-(intOf x).toNat)
 ·exact⟨0,by omega,rfl,λc G=>by omega,Zk _ _⟩
 obtain⟨a,ha,rfl,d,B⟩:=hrel;by_cases L:a<b
 ·have H:(a:Int)<b:=by omega
  go_wp2
  go_loopw [6,7] (λs x w'=>∃(p:Nat) (S:Bool),p<=P/\x=I6 p/\s=.bool S/\Hid (S=(List.range p).all λq=>hs q a==hs q b)/\Bl w w') (λs x _=>P-(intOf x).toNat)
  ·exact⟨0,true,by omega,rfl,rfl,rfl,B⟩
  clear B;obtain⟨p,S,O,rfl,rfl,HS,B⟩:=hrel;have c1:=y.out wr B;by_cases t:p<P
  ·have I:(p:Int)<P:=by omega
   cases S
   ·-- parted: the loop ends
    have z:Hid (∀c,c<a+1->Kq hs P c b=false):=λc G=>by
     by_cases e:c=a
     ·subst e;cases hk:Kq hs P c b
      ·rfl
      have h1:=(UU hs P c b).1 hk;have h2:(List.range p).all (λq=>hs q c==hs q b)=true:=by
       rw[List.all_eq_true];intro q M;rw[h1 q (by have:=ZI.1 M;omega)];simp
      have h3:=HS.out;rw[h2]at h3;cases h3
     exact d c (by omega)
    clear d HS;go_wp2;go_roundw
    ·exact⟨a+1,by omega,by go_num,z,B⟩
    simp[intOf];omega
   have i:=hyd (g p a wr t (by omega) B);have j:Hid (∀w',Bl w w'->Cp 116 #[pT gb,I6 p,I6 b] w' λe w''=>e=.returned (.bool (hs p b))/\Bl w' w''):=λw' h=>g.out p b w' t hb h
   have l:Hid ((hs p a==hs p b)=(List.range (p+1)).all λq=>hs q a==hs q b):=by
    show _=_;rw[ZT,List.all_append,<-HS.out];simp
   obtain⟨X,C⟩:=nam (hs p a);obtain⟨Y,D⟩:=nam (hs p b);rw[<-C,<-D]at l;rw[<-C]at i;rw[<-D]at j;clear C D HS;go_wp2_with fail;refine i.out.mono ?_;rintro e w3 ⟨rfl,E⟩;have f:=B.trans (E.mono B.size);have m:=hyd (j w3 f);clear i j E c1;go_wp2_with fail;refine m.out.mono ?_;rintro e Q ⟨rfl,B4⟩;have v:=f.trans (B4.mono f.size);clear m B4;cases X<;>cases Y<;>(go_wp2;go_roundw;(case rel=>exact⟨p+1,_,by omega,by go_num,rfl,l,v⟩);(case measure=>simp[intOf];omega))
  have⟨hge,hpP⟩:¬(p:Int)<P/\p=P:=by omega
  subst hpP;have u:Hid (Kq hs p a b=S):=by show _=_;rw[HS.out];rfl
  cases S
  ·have z:Hid (∀c,c<a+1->Kq hs p c b=false):=λc G=>by
    by_cases e:c=a
    ·subst e;exact u.out
    exact d c (by omega)
   clear d HS u;go_wp2;go_roundw
   ·exact⟨a+1,by omega,by go_num,z,B⟩
   simp[intOf];omega
  have A:Hid ((least (Kq hs p) b:Int)=a):=by
   show _=_;rw[least_eq u.out d.out (least_like F.out hb)]
  clear d HS u;go_wp2;go_ret;exact⟨YY A.out.symm,B⟩
 have⟨hge,hab⟩:¬(a:Int)<b/\a=b:=by omega
 subst hab;have A:Hid ((least (Kq hs P) a:Int)=a):=by
  show _=_;have h1:=least_le (Kq hs P) a;by_cases e:least (Kq hs P) a=a
  ·rw[e]
  have h2:=d.out (least (Kq hs P) a) (by omega);rw[least_like F.out hb]at h2;cases h2
 clear d;go_wp2;go_ret;exact⟨YY A.out.symm,B⟩
end
section
open Bm
namespace Rx
theorem fst_add:∀(e:Rx) (o p d:Nat),e.fst (o+d) (p+d)=e.fst o p
 |eps,_,_,_=>rfl
 |lit _,o,p,d=>by
  simp only[fst];by_cases h:p=o
  ·subst h;simp only[beq_self_eq_true]
  rw[show(p+d==o+d)=false from beq_eq_false_iff_ne.2 (by omega),show(p==o)=false from beq_eq_false_iff_ne.2 h]
 |cat a b,o,p,d=>by simp only[fst];rw[fst_add a,show o+d+a.sz=(o+a.sz)+d by omega,fst_add b]
 |alt a b,o,p,d=>by simp only[fst];rw[fst_add a,show o+d+a.sz=(o+a.sz)+d by omega,fst_add b]
 |star a,o,p,d=>fst_add a o p d
 |plus a,o,p,d=>fst_add a o p d
 |opt a,o,p,d=>fst_add a o p d
theorem lst_add:∀(e:Rx) (o p d:Nat),e.lst (o+d) (p+d)=e.lst o p
 |eps,_,_,_=>rfl
 |lit _,o,p,d=>by
  simp only[lst];by_cases h:p=o
  ·subst h;simp only[beq_self_eq_true]
  rw[show(p+d==o+d)=false from beq_eq_false_iff_ne.2 (by omega),show(p==o)=false from beq_eq_false_iff_ne.2 h]
 |cat a b,o,p,d=>by simp only[lst];rw[lst_add a,show o+d+a.sz=(o+a.sz)+d by omega,lst_add b]
 |alt a b,o,p,d=>by simp only[lst];rw[lst_add a,show o+d+a.sz=(o+a.sz)+d by omega,lst_add b]
 |star a,o,p,d=>lst_add a o p d
 |plus a,o,p,d=>lst_add a o p d
 |opt a,o,p,d=>lst_add a o p d
theorem fol_add:∀(e:Rx) (o p q d:Nat),e.fol (o+d) (p+d) (q+d)=e.fol o p q
 |eps,_,_,_,_=>rfl
 |lit _,_,_,_,_=>rfl
 |cat a b,o,p,q,d=>by simp only[fol];rw[fol_add a,show o+d+a.sz=(o+a.sz)+d by omega,fol_add b,lst_add,fst_add]
 |alt a b,o,p,q,d=>by simp only[fol];rw[fol_add a,show o+d+a.sz=(o+a.sz)+d by omega,fol_add b]
 |star a,o,p,q,d=>by simp only[fol];rw[fol_add a,lst_add,fst_add]
 |plus a,o,p,q,d=>by simp only[fol];rw[fol_add a,lst_add,fst_add]
 |opt a,o,p,q,d=>fol_add a o p q d
theorem has_add:∀(e:Rx) (o p c d:Nat),e.has (o+d) (p+d) c=e.has o p c
 |eps,_,_,_,_=>rfl
 |lit _,o,p,c,d=>by
  simp only[has];by_cases h:p=o
  ·subst h;simp only[beq_self_eq_true]
  rw[show(p+d==o+d)=false from beq_eq_false_iff_ne.2 (by omega),show(p==o)=false from beq_eq_false_iff_ne.2 h]
 |cat a b,o,p,c,d=>by simp only[has];rw[has_add a,show o+d+a.sz=(o+a.sz)+d by omega,has_add b]
 |alt a b,o,p,c,d=>by simp only[has];rw[has_add a,show o+d+a.sz=(o+a.sz)+d by omega,has_add b]
 |star a,o,p,c,d=>has_add a o p c d
 |plus a,o,p,c,d=>has_add a o p c d
 |opt a,o,p,c,d=>has_add a o p c d
end Rx
theorem Ex (T:Nat->Nd):∀(N j:Nat),j<YG T N->∃m,m<N/\(T m).kind=0/\YG T m=j
 |0,j,h=>by simp[YG]at h
 |N+1,j,h=>by
  by_cases e:j<YG T N
  ·obtain⟨m,h1,h2,h3⟩:=Ex T N j e;exact⟨m,by omega,h2,h3⟩
  simp only[YG]at h;by_cases k:(T N).kind=0
  ·rw[if_pos k]at h;exact⟨N,by omega,k,by omega⟩
  rw[if_neg k]at h;omega
structure Gm (R:Nat) (Ts:Nat->Nat->Nd) (Ns:Nat->Nat) (es:Nat->Rx) (ti nd:Nat->Nat):Prop where
 t:∀r,r<R->JE (Ts r) (Ns r)/\1<=Ns r/\Good (Ts r) (Ns r) 0 (Ns r-1) (es r)
 p:∀p,p<Y2 es R->ti p<R/\nd p<Ns (ti p)/\(Ts (ti p) (nd p)).kind=0/\p=Y2 es (ti p)+YG (Ts (ti p)) (nd p)
def Uf (T:Nat->Nd) (N:Nat) (ix:Nat->Nat) (h:Nat->Bool) (q:Nat):Bool:=(List.range N).any λm=>decide ((T m).kind=0)&&h m&&decide (q=ix m)
variable {l:List (N_)}{t0:List Int}{N P R b gb i k n q:Nat}{F f:N_}{Ns ix nd ti:Nat->Nat}{E:Nat->N_}{nx:Nat->Nat->Int}{T:Nat->Nd}{w w':World}
theorem VP {h:N_}:Uf T N ix h q=true<->∃m,m<N/\(T m).kind=0/\h m=true/\q=ix m:=by
 unfold Uf;simp only[List.any_eq_true,ZI,ZS,decide_eq_true_eq];constructor
 ·rintro ⟨m,h1,⟨h2,h3⟩,a⟩;exact⟨m,h1,h2,h3,a⟩
 rintro ⟨m,h1,h2,h3,a⟩;exact⟨m,h1,⟨h2,h3⟩,a⟩
def FO (P q:Nat):Nat:=if q<P then q else 96+(q-P)
def TU (es:Nat->Rx) (Ts:Nat->Nat->Nd) (r m:Nat):Nat:=Y2 es r+YG (Ts r) m
def Rs (T:Nat->Nd) (N:Nat) (ix:Nat->Nat) (P r n:Nat) (q:Nat):Bool:=Uf T N ix (λm=>MG T N n (some m)) q || (decide (q=P+r)&&MG T N n none)
def DO (es:Nat->Rx) (Ts:Nat->Nat->Nd) (Ns ti nd:Nat->Nat) (P p q:Nat):Bool:=Rs (Ts (ti p)) (Ns (ti p)) (TU es Ts (ti p)) P (ti p) (nd p) q
structure Eg (T:Nat->Nd) (N:Nat) (e:Rx):Prop where
 c:YG T N=e.sz
 n:Wp T (N-1)=e.nul
 f:∀m,(T m).kind=0->UR T (N-1) m=e.fst 0 (YG T m)
 b:∀m x,m<N->(T m).kind=0->(T x).kind=0->MG T N m (some x)=e.fol 0 (YG T m) (YG T x)
 b0:∀m,m<N->(T m).kind=0->MG T N m none=e.lst 0 (YG T m)
 h:∀m b,m<N->(T m).kind=0->b<256->(T m).inn b=e.has 0 (YG T m) b
variable {e:Rx}
theorem Ju (z:JE T N) (H:1<=N) (g:Good T N 0 (N-1) e):Eg T N e:=by
 obtain⟨k,rfl⟩:∃k,N=k+1:=⟨N-1,by omega⟩;simp only[Nat.add_sub_cancel]at g ⊢;obtain⟨h1,h2,h3,h,j⟩:=FF z.w z.u g;have l:=Vo z.w z.u;have d:(T k).up<0:=by
  have:=z.u k (by omega);omega
 have i:∀q,MG T (k+1) k q=(q==none):=λq=>l.bhR k q (by omega) d
 refine⟨h1,by simpa using h2,λm c=>by simpa using h3 m c,λm x c a o=>?_,λm c a=>?_,λm b c a n=>j m b (by omega) a n⟩
 ·rw[h m (some x) (by omega) a (λy f=>by cases f;exact o),i];simp
 rw[h m none (by omega) a (λy f=>by cases f),i];simp
variable {Ts:Nat->Nat->Nd}{es:Nat->Rx}
theorem Gm.tree (h:Gm R Ts Ns es ti nd) {r:Nat} (y:r<R):Eg (Ts r) (Ns r) (es r):=by
 obtain⟨h1,h2,h3⟩:=h.t r y;exact Ju h1 h2 h3
theorem Gm.ixlt (h:Gm R Ts Ns es ti nd) {r m:Nat} (H:r<R) (z:m<Ns r) (y:(Ts r m).kind=0):Y2 es r<=TU es Ts r m/\TU es Ts r m<Y2 es (r+1):=by
 have a:=(h.tree H).c;have:=Rz y z;unfold TU;simp only[Y2];omega
theorem Ql (h:Gm R Ts Ns es ti nd) {p b:Nat} (z:p<Y2 es R) (y:b<256):D8 Ts ti nd p b=Xn es R p b:=by
 obtain⟨h1,h2,h3,c⟩:=h.p p z;have a:=h.ixlt h1 h2 h3;unfold TU at a;rw[<-c]at a;rw[Ir es R (ti p) p b h1 a.1 a.2];unfold D8;rw[(h.tree h1).h _ b h2 h3 y];have:=Rx.has_add (es (ti p)) 0 (YG (Ts (ti p)) (nd p)) b (Y2 es (ti p));rw[Zn,ZP (YG _ _),<-c]at this;exact this.symm
theorem Il (h:Gm R Ts Ns es ti nd) {p q:Nat} (H:p<Y2 es R) (_hq:q<Y2 es R+R) (J:Y2 es R<=96):DO es Ts Ns ti nd (Y2 es R) p q=Ty es R p (FO (Y2 es R) q):=by
 obtain⟨h1,h2,h3,d⟩:=h.p p H;obtain⟨r,z⟩:=nam (ti p);obtain⟨n,x⟩:∃n,n=nd p:=⟨_,rfl⟩;unfold DO;rw[<-z]at h1 h2 h3 d ⊢;rw[<-x]at h2 h3 d ⊢;have j:=h.ixlt h1 h2 h3;unfold TU at j;rw[<-d]at j;have i:=h.tree h1;have A:Y2 es (r+1)<=Y2 es R:=XY es h1;rw[QY es R r p _ h1 j.1 j.2];have a:∀y,(es r).fol (Y2 es r) p (y+Y2 es r)=(es r).fol 0 (YG (Ts r) n) y:=λy=>by
  have:=Rx.fol_add (es r) 0 (YG (Ts r) n) y (Y2 es r);rw[Zn,ZP (YG _ _),<-d]at this;exact this
 have f:(es r).lst (Y2 es r) p=(es r).lst 0 (YG (Ts r) n):=by
  have:=Rx.lst_add (es r) 0 (YG (Ts r) n) (Y2 es r);rw[Zn,ZP (YG _ _),<-d]at this;exact this
 have t:Y2 es (r+1)=Y2 es r+(es r).sz:=rfl;unfold Rs FO;by_cases g:q<Y2 es R
 ·rw[if_pos g,show decide (q=Y2 es R+r)=false by simp;omega,show decide (q=96+r)=false by simp;omega];simp only[Bool.false_and,Bool.or_false];rw[Bool.eq_iff_iff,VP];constructor
  ·rintro ⟨m,k,m2,l,o⟩;rw[i.b n m h2 h3 m2]at l;have:=a (YG (Ts r) m);unfold TU at o;rw[o,ZP (Y2 es r),this];exact l
  intro s;obtain⟨C,D,v,E⟩:=Rx.fol_rng _ _ _ _ s;obtain⟨m,k,m2,l⟩:=Ex (Ts r) (Ns r) (q-Y2 es r) (by rw[i.c];omega);refine⟨m,k,m2,?_,by unfold TU;omega⟩;rw[i.b n m h2 h3 m2,l,<-a (q-Y2 es r),Nat.sub_add_cancel v];exact s
 rw[if_neg g];have B:Uf (Ts r) (Ns r) (TU es Ts r) (λm=>MG (Ts r) (Ns r) n (some m)) q=false:=by
  rw[Bool.eq_false_iff];intro w;obtain⟨m,k,m2,_,o⟩:=VP.1 w;have:=(h.ixlt h1 k m2).2;omega
 have u:(es r).fol (Y2 es r) p (96+(q-Y2 es R))=false:=Rx.fol_lt (by omega);rw[B,u,i.b0 n h2 h3,f,Bool.false_or,Bool.false_or];congr 1;by_cases e:q=Y2 es R+r
 ·simp[e]
 rw[show decide (q=Y2 es R+r)=false by simp[e],show decide (96+(q-Y2 es R)=96+r)=false by simp;omega]
def FL (es:Nat->Rx) (Ts:Nat->Nat->Nd) (Ns:Nat->Nat) (P R q:Nat):Bool:=(List.range R).any λr=>Uf (Ts r) (Ns r) (TU es Ts r) (UR (Ts r) (Ns r-1)) q || (decide (q=P+r)&&Wp (Ts r) (Ns r-1))
theorem Cm (h:Gm R Ts Ns es ti nd) {q:Nat} (_hq:q<Y2 es R+R) (z:Y2 es R<=96):FL es Ts Ns (Y2 es R) R q=X5 es R (FO (Y2 es R) q):=by
 have b:∀r y,(es r).fst (Y2 es r) (y+Y2 es r)=(es r).fst 0 y:=λr y=>by
  have:=Rx.fst_add (es r) 0 y (Y2 es r);rw[Zn]at this;exact this
 unfold FO;rw[Bool.eq_iff_iff];unfold FL;simp only[List.any_eq_true,ZI,Bool.or_eq_true,ZS,decide_eq_true_eq];by_cases d:q<Y2 es R
 ·rw[if_pos d,TZ es R q (by omega)];constructor
  ·rintro ⟨r,a,j|⟨p,_⟩⟩
   ·obtain⟨m,i,m2,e,k⟩:=VP.1 j;rw[(h.tree a).f m m2]at e;refine⟨r,a,?_⟩;unfold TU at k;rw[k,ZP,b];exact e
   omega
  rintro ⟨r,a,l⟩;obtain⟨o,s⟩:=Rx.fst_rng _ _ _ l;obtain⟨m,i,m2,e⟩:=Ex (Ts r) (Ns r) (q-Y2 es r) (by rw[(h.tree a).c];omega);refine⟨r,a,Or.inl (VP.2 ⟨m,i,m2,?_,by unfold TU;omega⟩)⟩;rw[(h.tree a).f m m2,e,<-b,Nat.sub_add_cancel o];exact l
 rw[if_neg d,Qq];simp only[ZS,decide_eq_true_eq];constructor
 ·rintro ⟨r,a,j|⟨p,g⟩⟩
  ·obtain⟨m,i,m2,e,k⟩:=VP.1 j;have:=(h.ixlt a i m2).2;have:=XY es (show r+1<=R from a);omega
  rw[(h.tree a).n]at g;have:q-Y2 es R=r:=by omega
  rw[this];exact⟨a,g⟩
 rintro ⟨a,g⟩;exact⟨q-Y2 es R,a,Or.inr ⟨by omega,by rw[(h.tree a).n];exact g⟩⟩
open Go.RowKit
def NX (gb P R:Nat) (nx:Nat->Nat->Bool) (w:World):Prop:=∃a c,w.cell? ⟨gb,4,none⟩=some (.slice a P c)/\∀p,p<P->∃nb o ra rc,a=some ⟨nb,o,none⟩/\w.cell? ⟨nb,o+p,none⟩=some (.slice ra (P+R) rc)/\BR ra (nx p) (P+R) w
theorem NX.below {nx:Nat->N_} (h:NX gb P R nx w) (y:Bl w w'):NX gb P R nx w':=by
 obtain⟨a,c,h0,h⟩:=h;refine⟨a,c,by rw[y.cell (p:=(a_ gb 4)) (Ze w _ h0)];exact h0,λp d=>?_⟩;obtain⟨nb,o,ra,f,e,c1,b⟩:=h p d;exact⟨nb,o,ra,f,e,by rw[y.cell (p:=(a_ nb (o+p))) (Ze w _ c1)];exact c1,b.below y⟩
theorem Gu (gb P R:Nat) (tr:Nat->Nat) (Ts:Nat->Nat->Nd) (Ns ti nd:Nat->Nat) (nx:Nat->N_) (sa:Option Addr) (sc:Nat) (f:N_) (b:Nat) (w:World) (hP:P<=1000) (hR:R<=1000) (ab:∀r,r<R->Ns r<=1000000) (hG:GR gb P R tr Ts Ns ti nd w) (hX:NX gb P R nx w) (hS:BR sa f (P+R) w) (hb:b<256):
  Cp 58 #[pT gb,.slice sa (P+R) sc,I6 b] w λe w'=>e=.returned (.slice (some (a_ w.heap.size 0)) (P+R) (P+R))/\TC w.heap.size (bl (Yh (D8 Ts ti nd) nx f b P) (P+R)) w'/\Bl w w'/\w.heap.size+1<=w'.heap.size:=by
 have q:=hyd (Ss gb P R w hP hR hG.gl);have s:Hid (∀(p:Nat) (w':World),p<P->Bl w w'->Cp 116 #[pT gb,I6 p,I6 b] w' λe w''=>e=.returned (.bool (D8 Ts ti nd p b))/\Bl w' w''):=λp w' h1 h=>ME gb P R tr Ts Ns ti nd p b w' (by omega) (by omega) ab (hG.below h) h1 hb
 obtain⟨a1,x1,z⟩:∃a x,∀w',Bl w w'->w'.cell? (a_ gb 1)=some (.slice a P x):=by
  obtain⟨a,x,c,_⟩:=hG.p;exact⟨a,x,λw' h=>by rw[h.cell (p:=(a_ gb 1)) (Ze w _ c)];exact c⟩
 have I:=hyd z;have K:Hid (∀w',Bl w w'->BR sa f (P+R) w'):=λw' h=>hS.below h
 obtain⟨U,nc,l,j⟩:=hX;have H:Hid (∀w',Bl w w'->w'.cell? (a_ gb 4)=some (.slice U P nc)):=λw' h=>by rw[h.cell (p:=(a_ gb 4)) (Ze w _ l)];exact l
 have J:Hid (∀p,p<P->∃nb o ra F,U=some (a_ nb o)/\∀w',Bl w w'->w'.cell? (a_ nb (o+p))=some (.slice ra (P+R) F)/\BR ra (nx p) (P+R) w'/\∀k V,ra=some (a_ k V)->k≠w.heap.size):=λp S=>by
  obtain⟨nb,o,ra,F,e,c1,v⟩:=j p S;refine⟨nb,o,ra,F,e,λw' h=>⟨by rw[h.cell (p:=(a_ nb (o+p))) (Ze w _ c1)];exact c1,v.below h,λk V ek=>?_⟩⟩;obtain⟨k2,o2,e2,c2⟩:=v 0 (by omega);have:=Ze w _ c2;rw[ek]at e2;cases e2;simp only at this;omega
 have aa:(P:Int)<=1000:=by omega
 obtain⟨hs,A⟩:=nam (D8 Ts ti nd);rw[<-A]at s ⊢;clear z hG ab A hS j l;go_enter Tryz.func58,Tryz.ntmps58;go_wp2_with fail;refine q.out.mono ?_;rintro e w1 ⟨rfl,Q,M,W⟩;clear q;go_wp2
 go_loopw [8] (λx w'=>∃p:Nat,p<=P/\x=I6 p/\TC w.heap.size (bl (Yh hs nx f b p) (P+R)) w'/\Bl w w'/\w.heap.size+1<=w'.heap.size) (λx _=>P-(intOf x).toNat)
 ·exact⟨0,by omega,rfl,by rw[YU (g:=λ_=>false) (λi _=>by simp[Yh])];exact Q,M,W⟩
 clear Q M W;obtain⟨p,S,rfl,T,B,sz⟩:=hrel;have c1:=I.out wr B;by_cases D:p<P
 ·have⟨hpl',hpl2⟩:(p:Int)<P/\(p:Int)<P+(R:Int):=by omega
  have t:=hyd (s p wr D B);have N:=hyd T;clear T;go_wp2_with fail;refine t.out.mono ?_;rintro e w3 ⟨rfl,G⟩;have d:=B.trans (G.mono B.size);have u:=N.out.block (G.block _ (by omega));have X:w.heap.size+1<=w3.heap.size:=by have:=G.size;omega
  obtain⟨sb,so,es,cs⟩:=K.out w3 d p (by omega);subst es;have n:Hid ((f p&&hs p b)=false->TC w.heap.size (bl (Yh hs nx f b (p+1)) (P+R)) w3):=λh=>by
   rw[YU (g:=Yh hs nx f b p) (λi _=>by rw[Ru,h];simp)];exact u
  clear c1 t N B G;cases hf:f p
  ·rw[hf]at cs;have m:=n.out (by rw[hf];rfl);clear n u;cases hh:hs p b<;>(go_wp2;go_roundw;(case rel=>exact⟨p+1,by omega,by go_num,m,d,X⟩);(case measure=>simp[intOf];omega))
  rw[hf]at cs;cases hh:hs p b
  ·have m:=n.out (by rw[hf,hh];rfl);clear n u;go_wp2;go_roundw
   ·exact⟨p+1,by omega,by go_num,m,d,X⟩
   simp[intOf];omega
  clear n;obtain⟨nb,o,ra,F,en,E⟩:=J.out p D;subst en;obtain⟨cn,v,C⟩:=E w3 d;have c4:=H.out w3 d;have O:=hyd (HQ w.heap.size (P+R) (P+R) (Yh hs nx f b p) ra (P+R) F (nx p) w3 (by omega) u (Zg _) v C);have L:Hid (∀i,Yh hs nx f b (p+1) i=(Yh hs nx f b p i || nx p i)):=λi=>by rw[Ru,hf,hh];simp
  clear u v C E;go_wp2_with fail;refine O.out.mono ?_;rintro e Y ⟨rfl,m,_,z4,y⟩;have T5:TC w.heap.size (bl (Yh hs nx f b (p+1)) (P+R)) Y:=by
   rw[YU (g:=λi=>Yh hs nx f b p i || nx p i) (λi _=>L.out i)];exact m
  have Z:=y w.heap.size w (Zg _) d;have s5:w.heap.size+1<=Y.heap.size:=by omega
  clear m y O z4 cn c4 cs;go_wp2;go_roundw
  ·exact⟨p+1,by omega,by go_num,T5,Z,s5⟩
  simp[intOf];omega
 have⟨hge,hpP⟩:¬(p:Int)<P/\p=P:=by omega
 subst hpP;go_wp2;go_ret;exact⟨rfl,T,B,sz⟩
end
section
open Bm
def JD (P R:Nat) (g:Nat->Bool):Prop:=∀q,q<104->g q=true->q<P\/(96<=q/\q<96+R)
theorem OK (P R:Nat):JD P R U9:=λq _ h=>by cases h
theorem MC (es:Nat->Rx) (R:Nat) (_hP:Y2 es R<=96):JD (Y2 es R) R (X5 es R):=λq c h=>by
 by_cases h1:q<96
 ·obtain⟨k,b,a⟩:=(TZ es R q h1).1 h;have h2:=(Rx.fst_rng _ _ _ a).2;have h3:=XY es (show k+1<=R from b);simp only[Y2]at h3;exact Or.inl (by omega)
 have e:=Qq es R (q-96);rw[show 96+(q-96)=q by omega,h]at e;have:q-96<R:=by
  have:=e.symm;simp only[ZS,decide_eq_true_eq]at this;exact this.1
 exact Or.inr (by omega)
theorem KW (es:Nat->Rx) (R:Nat) (_hP:Y2 es R<=96) (f:N_) (b:Nat):JD (Y2 es R) R (VT es R f b):=λq i h=>by
 unfold VT Yh at h;obtain⟨p,d,h1⟩:=List.any_eq_true.1 h;have a:=ZI.1 d;simp only[ZS]at h1;obtain⟨k,k1,e,g⟩:=Lx es R p a;have h2:=h1.2;rw[QY es R k p q k1 e g]at h2;simp only[Bool.or_eq_true,ZS,decide_eq_true_eq]at h2;rcases h2 with h2|⟨h2,_⟩
 ·have h3:=(Rx.fol_rng _ _ _ _ h2).2.2.2;have c:=XY es (show k+1<=R from k1);simp only[Y2]at c;exact Or.inl (by omega)
 exact Or.inr (by omega)
variable {l:List (N_)}{t0:List Int}{P R b i k n:Nat}{F f:N_}{Ns nd ti:Nat->Nat}{E:Nat->N_}{nx:Nat->Nat->Int}
theorem OR:∀(u d r:Nat),(∀x,r+u<=x->x<r+u+d->f x=false)->To f (u+d) r=To f u r
 |0,0,r,_=>rfl
 |0,d+1,r,h=>by
  have:=OR 0 d (r+1) (λx h1 h2=>h x (by omega) (by omega));rw[Zn]at this ⊢;show(if f r then (r:Int) else To f d (r+1))=-1;rw[h r (by omega) (by omega),if_neg (by simp),this];rfl
 |u+1,d,r,h=>by
  rw[show u+1+d=(u+d)+1 by omega,To,To];split
  ·rfl
  exact OR u d (r+1) (λx h1 h2=>h x (by omega) (by omega))
def em (P:Nat) (g:Nat->Bool) (q:Nat):Bool:=g (FO P q)
theorem JV (g:N_) {q:Nat} (h:q<P):em P g q=g q:=by unfold em FO;rw[if_pos h]
theorem Ll (P:Nat) (g:N_) (r:Nat):em P g (P+r)=g (96+r):=by unfold em FO;rw[g_];congr 1;omega
theorem Dz {g h:N_} (H:P<=96) (J:R<=8) (y:JD P R g) (z:JD P R h):(∀q,q<P+R->em P g q=em P h q)<->Yu g h 104=true:=by
 rw[WA];constructor
 ·intro e q c;by_cases h1:q<P
  ·have:=e q (by omega)
   rwa [JV g h1,JV h h1]at this
  by_cases h2:96<=q/\q<96+R
  ·have:=e (P+(q-96)) (by omega);rw[Ll,Ll,show 96+(q-96)=q by omega]at this;exact this
  cases a:g q
  ·cases b:h q
   ·rfl
   have:=z q c b;omega
  have:=y q c a;omega
 intro e q c;unfold em FO;split
 ·exact e q (by omega)
 exact e _ (by omega)
theorem QT {g h:N_} (y:P<=96) (z:R<=8) (H:JD P R g) (J:JD P R h):Wu (em P g) (P+R)=Wu (em P h) (P+R)<->Yu g h 104=true:=by
 rw[E0];exact Dz y z H J
variable {Ts:Nat->Nat->Nd}{es:Nat->Rx}
theorem Dy (h:Gm R Ts Ns es ti nd) (y:Y2 es R<=96) (g:N_) {b q:Nat} (z:b<256) (H:q<Y2 es R+R):
  Yh (D8 Ts ti nd) (DO es Ts Ns ti nd (Y2 es R)) (em (Y2 es R) g) b (Y2 es R) q=em (Y2 es R) (VT es R g b) q:=by
 unfold em VT Yh;rw[Bool.eq_iff_iff];simp only[List.any_eq_true,ZI];constructor
 ·rintro ⟨p,a,h1⟩;refine⟨p,a,?_⟩;rw[Ql h a z,Il h a H y]at h1;rw[show FO (Y2 es R) p=p by unfold FO;rw[if_pos a]]at h1;exact h1
 rintro ⟨p,a,h1⟩;refine⟨p,a,?_⟩;rw[Ql h a z,Il h a H y,show FO (Y2 es R) p=p by unfold FO;rw[if_pos a]];exact h1
theorem Hz (h:Gm R Ts Ns es ti nd) {b:Nat} (y:b<256):least (Kq (D8 Ts ti nd) (Y2 es R)) b=least (Kq (Xn es R) (Y2 es R)) b:=by
 refine least_congr (n:=256) (TE _ _ _) (TE _ _ _) (λa c ha f=>?_) y;rw[UU,UU];constructor
 ·intro e p d;rw[<-Ql h d ha,<-Ql h d f];exact e p d
 intro e p d;rw[Ql h d ha,Ql h d f];exact e p d
theorem IA {g:Nat->Bool} (hP:P<=96) (hR:R<=8) (hg:JD P R g):To (fun r=>em P g (P+r)) R 0=To (fun r=>g (96+r)) 8 0:=by
 have e:=funext (fun r=>Ll P g r);rw[e];obtain⟨d,hd⟩:∃d,8=R+d:=⟨8-R,by omega⟩;rw[hd]
 symm
 refine OR R d 0 (fun x h1 h2=>?_);cases a:g (96+x)
 ·rfl
 ·have:=hg (96+x) (by omega) a;omega
theorem EG {g:N_} (z:P<=96) (H:R<=8) (J:JD P R g) (Y:∀h∈l,JD P R h) (y:Yu g U9 104=false):
  (Xz l g<l.length/\Lp (λi=>Wu (em P (l.getD i U9)) (P+R)) (Wu (em P g) (P+R)) l.length=Xz l g/\WP l g=l)\/(Xz l g=l.length/\Lp (λi=>Wu (em P (l.getD i U9)) (P+R)) (Wu (em P g) (P+R)) l.length=-1/\WP l g=l++[g]):=by
 have d:∀(i:Nat) (h:N_),l[i]?=some h->(Wu (em P (l.getD i U9)) (P+R)=Wu (em P g) (P+R)<->Yu h g 104=true):=λi h f=>by
  rw[Zf,f,Option.getD_some];exact QT z H (Y h (List.mem_of_getElem? f)) J
 unfold Xz WP;rw[if_neg (by rw[y];simp),if_neg (by rw[y];simp)];by_cases a:l.findIdx (λh=>Yu h g 104)<l.length
 ·rw[if_pos a];refine Or.inl ⟨by omega,?_,rfl⟩;have h1:=List.findIdx_getElem (w:=a) (xs:=l) (p:=λh=>Yu h g 104);refine J3 a ((d _ _ (Zd a)).2 h1) (λj b e=>?_);have c:j<l.length:=by omega
  have h2:=(d j _ (Zd c)).1 e;have h3:=List.not_of_lt_findIdx b;rw[h2]at h3;exact absurd h3 (by simp)
 rw[if_neg a];have h1:l.findIdx (λh=>Yu h g 104)=l.length:=by
  have:=List.findIdx_le_length (xs:=l) (p:=λh=>Yu h g 104);omega
 refine Or.inr ⟨by omega,Mk (λj b e=>?_),rfl⟩;have h2:=(d j _ (Zd b)).1 e;have h3:=List.findIdx_eq_length.1 h1 _ (List.getElem_mem b);rw[h2]at h3;cases h3
def Ov (A:(Nat->Bool)->Nat->Nat->Bool) (F:Nat->Bool) (ls:List Nat):Prop:=∃s k l t f b,WS A F ls s k l t/\l[s]?=some f/\ls[k]?=some b/\200<=Xz l (A f b)
def Gh (A:(Nat->Bool)->Nat->Nat->Bool) (F:Nat->Bool) (E:Nat->Nat->Bool) (s:Nat) (t0:List Int) (b:Nat) (l:List (Nat->Bool)) (to:Nat->Int):Prop:=
 (∃t,WS A F (reps E 256) s (cnt E b) l t/\(∃u,t=t0++u)/\∀c,c<b->to c=t.getD (s*(reps E 256).length+idx E c) (-1))\/(200<l.length/\Ov A F (reps E 256))
theorem Gh.first {A:(N_)->Nat->N_}{s:Nat}{t:List Int} (h:WS A F (reps E 256) s 0 l t) (to:Nat->Int):Gh A F E s t 0 l to:=
 Or.inl ⟨t,h,⟨[],by simp⟩,λc a=>by omega⟩
variable {to:Nat->Int}
theorem Gh.copy {A:(N_)->Nat->N_}{s:Nat} (y:Eqv E 256) (h:Gh A F E s t0 b l to) (z:b<256) (H:least E b<b):Gh A F E s t0 (b+1) l (λc=>if c=b then to (least E b) else to c):=by
 rcases h with ⟨t,h1,h2,h3⟩|h
 ·refine Or.inl ⟨t,by rw[cnt_succ,g_,Nat.add_zero];exact h1,h2,λc d=>?_⟩;by_cases e:c=b
  ·subst e;simp only[if_true];rw[h3 _ H];congr 2;have a:=least_idem y z;rw[idx_rep a];rfl
  simp only[e,if_false];exact h3 c (by omega)
 exact Or.inr h
theorem Gh.step {A:(N_)->Nat->N_}{s:Nat}{g:N_} (H:Eqv E 256) (h:Gh A F E s t0 b l to) (J:b<256) (y:least E b=b) (z:l[s]?=some g):Gh A F E s t0 (b+1) (WP l (A g b)) (λc=>if c=b then Xz l (A g b) else to c):=by
 rcases h with ⟨t,h1,⟨u,h2⟩,h3⟩|⟨h1,h2⟩
 ·have d:=reps_get E 256 b J y;have a:=h1.size;by_cases k:Xz l (A g b)<200
  ·refine Or.inl ⟨t++[Xz l (A g b)],by rw[cnt_succ,if_pos y];exact h1.kind z d k,⟨u++[Xz l (A g b)],by rw[h2,Zs]⟩,λc m=>?_⟩;by_cases e:c=b
   ·subst e;simp only[if_true];rw[idx_rep y,<-a.2.2.1];simp[Zf]
   simp only[e,if_false];rw[h3 c (by omega)];have f:idx E c<cnt E b:=by
    have i:=least_le E c;exact cnt_lt (least_idem H (by omega)) (by omega)
   simp only[Zf];rw[Zv (by omega)]
  refine Or.inr ⟨?_,s,_,l,t,g,b,h1,z,d,by omega⟩;have j:=Pm l (A g b);omega
 refine Or.inr ⟨?_,h2⟩;rcases Uq l (A g b)with h|h
 ·omega
 omega
theorem Gh.last {A:(N_)->Nat->N_}{s:Nat} (h:Gh A F E s t0 256 l to) (hs:s<l.length):(200<l.length/\Ov A F (reps E 256))\/(l.length<=200/\∃t,WS A F (reps E 256) (s+1) 0 l t/\(∃u,t=t0++u)/\∀c,c<256->to c=t.getD (s*(reps E 256).length+idx E c) (-1)):=by
 rcases h with ⟨t,h1,h2,h3⟩|h
 ·have e:cnt E 256=(reps E 256).length:=rfl;rw[e]at h1;exact Or.inr ⟨h1.size.2.1,t,WS.set h1 hs,h2,h3⟩
 exact Or.inl h
structure Pn (A:Aut) (E:Nat->Nat->Bool) (nx:Nat->Nat->Int):Prop where
 e:Eqv E 256
 k:A.K=(reps E 256).length
 x:∀i b,i<A.N->b<256->nx i b=A.to i (idx E b)
 g:A.Good
 b:Bfs A
variable {A:Aut}
theorem Pn.kk (h:Pn A E nx) {b:Nat} (y:b<256):idx E b<A.K:=by
 rw[h.k];exact idx_lt h.e y
theorem Pn.lt (h:Pn A E nx) {i b:Nat} (z:i<A.N) (y:b<256):nx i b<A.N:=by
 rw[h.x i b z y];exact(h.g.rng i _ z (h.kk y)).2
end
section
open Bm
variable {A:Aut}{i k n:Nat}{E:Nat->N_}{nx:Nat->Nat->Int}
theorem Pn.to (h:Pn A E nx) {i b:Nat} (z:i<=A.N) (y:b<256):Ud A.N nx i b<=A.N/\st A (Ud A.N nx i b)=if i=A.N then -1 else A.to i (idx E b):=by
 have c:=ON (λh1=>h.lt h1 y) z;refine⟨c,?_⟩;unfold Ud;by_cases h1:i=A.N
 ·rw[if_pos (Or.inl h1),if_pos h1];unfold st;rw[if_pos rfl]
 have a:i<A.N:=by omega
 have d:=h.g.rng i _ a (h.kk y);rw[if_neg h1];by_cases h2:nx i b<0
 ·rw[if_pos (Or.inr h2)];have:=h.x i b a y;unfold st;rw[if_pos rfl];omega
 rw[g_];have h3:=h.x i b a y;unfold st;rw[g_];omega
theorem CX (y:k<(reps E 256).length):∃b,(reps E 256)[k]?=some b/\b<256/\idx E b=k:=by
 refine⟨_,Zd y,?_⟩;obtain⟨h1,h2,h3⟩:=reps_mem (Zd y);exact⟨h1,by rw[idx_rep h2];exact h3⟩
theorem Lm (_hi:i<=A.N):ext A (st A i) []=FP A.N A.vd i:=by
 unfold st FP;by_cases h:i=A.N
 ·rw[if_pos h,if_pos h,ext_none _ _ (by omega)]
 rw[if_neg h,if_neg h,ext_nil]
theorem OM (h:Pn A E nx) {t:Nat->N_} (Y:Pu A.N A.vd nx (reps E 256) t) (Z:Dk A.N nx (reps E 256) t (A.N+1) 0) {i j:Nat} (H:i<=A.N) (J:j<=A.N):t i j=false<->Al A (st A i) (st A j):=by
 have q:∀k,k<A.K->∃b,(reps E 256)[k]?=some b/\b<256/\idx E b=k:=λk m=>CX (by rw[<-h.k];exact m)
 let toN:Nat->Nat->Nat:=λi k=>Ud A.N nx i ((reps E 256).getD k 0)
 have d:∀i k b,(reps E 256)[k]?=some b->toN i k=Ud A.N nx i b:=λi k b v=>by
  show Ud A.N nx i ((reps E 256).getD k 0)=_;rw[Zf,v];rfl
 have u:∀i k,i<=A.N->k<A.K->toN i k<=A.N/\st A (toN i k)=if i=A.N then -1 else A.to i k:=λi k H m=>by
  obtain⟨b,o,p,D⟩:=q k m;rw[d i k b o];have:=h.to H p;rw[D]at this;exact this
 constructor
 ·intro g w C;refine pairs_al u (λi j H J g=>?_) (λi j k H J m g=>?_) w i j C H J g
  ·rw[Lm H,Lm J];by_cases e:FP A.N A.vd i=FP A.N A.vd j
   ·exact e
   have:=Y.base i j H J (by unfold t0;exact bne_iff_ne.2 e);rw[g]at this;cases this
  obtain⟨b,o,p,_⟩:=q k m;rw[d i k b o,d j k b o];have l:∀a c,c<a->a<=A.N->t a c=false->t (Ud A.N nx a b) (Ud A.N nx c b)=false:=λa c x ha g=>by
   have h1:=Z a c x ha (Or.inl (by omega)) g;unfold VH at h1;rw[List.take_length]at h1;have h2:=List.any_eq_false.1 h1 b (List.mem_of_getElem? o);simpa using h2
  rcases Nat.lt_trichotomy i j with B|F|y
  ·have h1:=l j i B J (by rw[Y.sym j i J H];exact g);rw[Y.sym _ _ (h.to H p).1 (h.to J p).1];exact h1
  ·subst F;exact Y.irr _ (h.to H p).1
  exact l i j y H g
 intro f;cases g:t i j
 ·rfl
 exfalso;have n:=Y.sub i j H J g;have l:∀i j,BU A.N A.vd nx (reps E 256) i j->¬Al A (st A i) (st A j):=λi j n=>by
  induction n with
  |base H J h0=>
   intro f;have:=f [] (Kd.nil A);rw[Lm H,Lm J]at this;unfold t0 at h0;exact(bne_iff_ne.1 h0) this
  |step H J v hx ih=>
   rename_i i j b;obtain⟨k,m,z⟩:=List.mem_iff_getElem.1 v;have r:(reps E 256)[k]?=some b:=by rw[Zd m,z]
   have s:k<A.K:=by rw[h.k];exact m
   intro f;refine ih (λw C=>?_);have e:∀i,i<=A.N->ext A (st A i) (k::w)=ext A (st A (toN i k)) w:=λi H=>by
    rw[(u i k H s).2];unfold st;by_cases h1:i=A.N
    ·rw[if_pos h1,if_pos h1,ext_none _ _ (by omega),ext_none _ _ (by omega)]
    rw[if_neg h1,if_neg h1];simp only[ext,ZE];rw[g_]
   have:=f (k::w) (C.cons s);rw[e i H,e j J,d i k b r,d j k b r]at this;exact this
 exact l i j n f
noncomputable def US (A:Aut) (i:Nat):Nat:=if i=A.N then A.N else least (alB A) i
theorem CH (h:Pn A E nx) {t:Nat->N_} (z:Pu A.N A.vd nx (reps E 256) t) (y:Dk A.N nx (reps E 256) t (A.N+1) 0) {i f:Nat} (H:i<=A.N) (J:f<=i) (h1:t i f=false) (h2:∀j,j<f->t i j=true):f=US A i:=by
 unfold US;by_cases e:i=A.N
 ·rw[if_pos e];rcases ZD f A.N with h3|h3
  ·exfalso;have d:=(OM h z y H (by omega)).1 h1;unfold st at d;rw[if_pos e,g_]at d;exact h.g.live f h3 d.symm
  omega
 rw[if_neg e];have a:∀x,x<A.N->st A x=(x:Int):=λx k=>by unfold st;rw[g_]
 have c:i<A.N:=by omega
 refine(least_eq ((alB_iff A f i).2 ?_) (λb l=>?_) (least_like (alB_eqv A A.N) c)).symm
 ·have:=(OM h z y H (by omega)).1 h1;rw[a i c,a f (by omega)]at this;exact this.symm
 cases k:alB A b i
 ·rfl
 exfalso;have h3:=(alB_iff A b i).1 k;have d:=(OM h z y H (show b<=A.N by omega)).2 (by rw[a i c,a b (by omega)];exact h3.symm);rw[h2 b l]at d;cases d
theorem EM (y:i<A.N):US A i<A.N:=by
 unfold US;rw[g_];have:=least_le (alB A) i;omega
theorem NM (A:Aut):US A A.N=A.N:=by unfold US;rw[if_pos rfl]
def RI (O:List Nat) (x:Nat):Int:=if x∈O then (O.idxOf x:Int) else -1
structure Or (A:Aut) (E:Nat->Nat->Bool) (O:List Nat) (i r b:Nat):Prop where
 o:O=reps (alB A) (kn A (r*A.K+cnt E b))
 i:O[i]?=some r
 r:r<A.N
theorem Ji (E:Nat->N_) (n:Nat):(reps E n).Nodup:=List.Pairwise.filter _ List.nodup_range
theorem SY {x:Nat}:x∈reps E n<->x<n/\least E x=x:=by
 unfold reps;rw[List.mem_filter];simp
theorem Or.step (h:Pn A E nx) {O:List Nat}{i r b:Nat} (z:Or A E O i r b) (H:b<256):
  (Ud A.N nx r b=A.N/\Or A E O i r (b+1))\/(∃m,Ud A.N nx r b=m/\m<A.N/\((least (alB A) m∈O/\Or A E O i r (b+1))\/(least (alB A) m ∉ O/\Or A E (O++[least (alB A) m]) i r (b+1)))):=by
 have c:=h.to (ZM z.r) H;rw[if_neg (by have:=z.r;omega)]at c;have a:=h.kk H;have l:least E b≠b->cnt E (b+1)=cnt E b:=λv=>by rw[cnt_succ,if_neg v,Nat.add_zero]
 have g:least E b=b->idx E b=cnt E b:=λf=>idx_rep f
 by_cases w:Ud A.N nx r b=A.N
 ·refine Or.inl ⟨w,⟨?_,z.i,z.r⟩⟩;rw[w]at c;have j:A.to r (idx E b)<0:=by
   have:=c.2;unfold st at this;rw[if_pos rfl]at this;omega
  by_cases f:least E b=b
  ·rw[cnt_succ,if_pos f,<-ZN];rw[g f]at j a;rw[step_none a j];exact z.o
  rw[l f];exact z.o
 have t:Ud A.N nx r b<A.N:=by omega
 refine Or.inr ⟨_,rfl,t,?_⟩;obtain⟨m,u⟩:=nam (Ud A.N nx r b);rw[<-u]at c t ⊢;have d:A.to r (idx E b)=(m:Int):=by
  have:=c.2;unfold st at this;rw[g_]at this;exact this.symm
 have q:=least_idem (alB_eqv A A.N) t;have s:∀k,k<A.K->A.to r k=(m:Int)->least (alB A) m<kn A (r*A.K+k+1):=λk x p=>by
  rcases step_rep h.b z.r x p with ⟨h1,_⟩|⟨h1,h2,_⟩
  ·have:=kn_mono A (show r*A.K+k<=r*A.K+k+1 by omega);omega
  rw[kn,fl_at A x,p,p_];omega
 by_cases f:least E b=b
 ·have n:cnt E (b+1)=cnt E b+1:=by rw[cnt_succ,if_pos f]
  rw[g f]at d a;rcases step_rep h.b z.r a d with ⟨h1,h2⟩|⟨h1,h2,h3⟩
  ·refine Or.inl ⟨by rw[z.o,SY];exact⟨h1,q⟩,⟨?_,z.i,z.r⟩⟩;rw[n,<-ZN,h2];exact z.o
  refine Or.inr ⟨by rw[z.o,SY];intro y;omega,⟨?_,?_,z.r⟩⟩
  ·rw[n,<-ZN,h3,h1,<-z.o]
  rw[Zv (Zi.1 z.i).1];exact z.i
 refine Or.inl ⟨?_,⟨by rw[l f];exact z.o,z.i,z.r⟩⟩;rw[z.o,SY];refine⟨?_,q⟩;have h1:=s _ a d;have h2:idx E b<cnt E b:=cnt_lt (least_idem h.e H) (by have:=least_le E b;omega);have:=kn_mono A (show r*A.K+idx E b+1<=r*A.K+cnt E b by omega);omega
theorem Or.first (h:Pn A E nx):Or A E [0] 0 0 0:=by
 refine⟨?_,rfl,h.b.pos⟩;have:cnt E 0=0:=rfl;rw[this,Nat.zero_mul];rfl
theorem Or.next (h:Pn A E nx) {O:List Nat}{i r:Nat} (y:Or A E O i r 256):(∃r',O[i+1]?=some r'/\Or A E O (i+1) r' 0)\/(O.length=i+1/\O=reps (alB A) A.N):=by
 have d:=y.o;have e:r*A.K+cnt E 256=(r+1)*A.K:=by
  have:cnt E 256=A.K:=by rw[h.k];rfl
  rw[this,Nat.succ_mul]
 rw[e]at d;have j:=y.i;have m:=(Zi.1 j).1;rw[d]at j;by_cases l:i+1<O.length
 ·obtain⟨r',c⟩:∃r',O[i+1]?=some r':=⟨_,Zd l⟩;have f:=c;rw[d]at f;obtain⟨q,n,s,p⟩:=next_rep h.g h.b y.r j f;refine Or.inl ⟨r',c,⟨?_,c,n⟩⟩;have:cnt E 0=0:=rfl;rw[this,Nat.add_zero,<-p];exact d
 have a:O.length=i+1:=by omega
 refine Or.inr ⟨a,?_⟩;rw[<-last_rep h.g h.b y.r j (by rw[<-d];exact a)];exact d
open Go.RowKit
open Pg (Pt)
theorem RF (v:Value) (e r a:Int) (w:World) (J:e≠0) (Y:∀W,Bl w W->Cp 124 #[v] W λe' w'=>e'=.returned (.tuple #[I6 e,I6 r,I6 a])/\Bl W w'):
  Cp 34 #[v] w λen w'=>en=.returned (.tuple #[.agg XL.toArray,I6 e])/\Bl w w':=by
 have hz:=WV;have D:=Rq;have C:(e != 0)=true:=by simp[J]
 obtain⟨W0,b⟩:=nam (w.alloc (.cells #[I6 0,sN,sN,sN] 25));have T0:TC w.heap.size XL W0:=by rw[b];exact TC.boxed w XL _
 have B0:Bl w W0:=by rw[b];exact box_bel _ _
 have o:W0.heap.size=w.heap.size+1:=by rw[b];simp
 have k:=hyd (CQ v e r a W0 J (λW B=>Y W (B0.trans (B.mono (by omega)))));have l:=hyd b;have d:=hyd o;clear b o Y J;go_enter Tryz.func34,Tryz.ntmps34;go_wp2_with fail;rw[<-l.out];refine k.out.mono ?_;rintro en w2 ⟨rfl,p⟩;have H:w.heap.size+1<=w2.heap.size:=by have:=d.out;have:=p.size;omega
 have y:=T0.block (p.block _ (by have:=d.out;omega));have h:Bl w w2:=B0.trans (p.mono (by have:=d.out;omega));obtain⟨Z,q⟩:=nam XC;rw[<-q];have u:Hid (Z.length=106):=by show _=_;rw[q];exact U8 _ _ _
 have j:Hid (Z.toArray.all (·.oneCell')=true):=by show _=true;rw[q];exact QZ rfl rfl _
 clear q p B0 T0 k l;go_wp2_with (first|(with_reducible refine gst 137 ?_;refine X9.out ?_));refine⟨?_⟩;obtain⟨w3,g⟩:=nam ((w2.alloc (.cells XC.toArray 137)).setCells w2.heap.size 0 Z);have n:=WW w2 XC Z 137 (by rw[u.out];exact(U8 _ _ _).symm);rw[<-g]at n;obtain⟨s,E,F,A⟩:=n;refine Za rfl 137 _ _ rfl w2.heap.size 0 Z.toArray rfl rfl (by simpa using A) (by simpa[u.out]using VG) j.out ?_;rw[Zc,<-g];have z:=y.block (s.block _ (by omega));have i:Bl w w3:=h.trans (s.mono (by omega));obtain⟨G,x,c,_⟩:=WU (I6 0) (sN) (sN) (sN) z i;obtain⟨I,f⟩:=nam (w3.setCells w.heap.size 0 [I6 0,sN,sN,sN]);rw[<-f]at x c;have t:=hyd f;have m:=hyd c;clear g f c z i y h s E F A H u j;go_wp2_with (first|(with_reducible refine gst 25 ?_;refine X9.out ?_));refine⟨?_⟩;refine Za rfl 25 _ _ rfl w.heap.size 0 #[I6 0,sN,sN,sN] rfl rfl G Yl (by simp[Value.oneCell']) ?_;rw[Zc,<-t.out];go_wp2_with fail;refine Zr (v:=.tuple #[.agg #[I6 0,sN,sN,sN],I6 e]) (XO Tryz.results34 rfl m.out rfl) rfl ?_;exact⟨rfl,x⟩
theorem Sb (v:Value) (w:World) (Q:World->Ending->World->Prop) (R:Ending->World->Prop) (H:∀W,Bl w W->W.heap.size=w.heap.size+1->Cp 34 #[v] W (Q W))
  (J:∀en w' W,Bl w W->W.heap.size=w.heap.size+1->Q W en w'->Bl W w'/\∃a b c d e,en=.returned (.tuple #[.agg #[a,b,c,d],I6 e])/\(#[a,b,c,d]:Array Value).all (·.oneCell')=true/\∀WX,w'.grownBy WX (some w.heap.size)->Bl w WX->R en WX):
  Cp 22 #[v] w R:=by
 have hz:=WV;obtain⟨W0,f⟩:=nam (w.alloc (.cells #[I6 0,sN,sN,sN] 25));have T0:TC w.heap.size XL W0:=by rw[f];exact TC.boxed w XL _
 have B0:Bl w W0:=by rw[f];exact box_bel _ _
 have i:W0.heap.size=w.heap.size+1:=by rw[f];simp
 have r:=hyd (H W0 B0 i);have l:=hyd f;have s:Hid (∀en w',Q W0 en w'->Bl W0 w'/\∃a b c d e,en=.returned (.tuple #[.agg #[a,b,c,d],I6 e])/\(#[a,b,c,d]:Array Value).all (·.oneCell')=true/\∀WX,w'.grownBy WX (some w.heap.size)->Bl w WX->R en WX):=λen w' h=>J en w' W0 B0 i h
 have n:=hyd i;clear f i H J;go_enter Tryz.func22,Tryz.ntmps22;go_wp2_with fail;rw[<-l.out];refine r.out.mono ?_;intro en w2 z;obtain⟨o,a,b,c,d,e,rfl,h1,y⟩:=s.out en w2 z;have u:=T0.block (o.block _ (by have:=n.out;omega));have k:Bl w w2:=B0.trans (o.mono (by have:=n.out;omega));obtain⟨B,q,g,x⟩:=WU a b c d u k;have t:=hyd (y _ x q);obtain⟨WX,j⟩:=nam (w2.setCells w.heap.size 0 [a,b,c,d]);rw[<-j]at g t;have p:=hyd j;have m:=hyd g;have A:=hyd h1;clear j g x q y z u k o T0 B0 s r l h1;go_wp2_with (first|(with_reducible refine gst 25 ?_;refine X9.out ?_));refine⟨?_⟩;refine Za rfl 25 _ _ rfl w.heap.size 0 #[a,b,c,d] rfl rfl B Yl A.out ?_;rw[Zc,<-p.out];go_wp2_with fail;exact Zr (v:=.tuple #[.agg #[a,b,c,d],I6 e]) (XO Tryz.results22 rfl m.out rfl) rfl t.out
theorem NW:XL.toArray.all (·.oneCell')=true:=by simp[XL,Value.oneCell']
theorem SZ (v:Value) (e r a:Int) (w:World) (z:e≠0) (y:∀W,Bl w W->Cp 124 #[v] W λe' w'=>e'=.returned (.tuple #[I6 e,I6 r,I6 a])/\Bl W w'):
  Cp 22 #[v] w λen w'=>en=.returned (.tuple #[.agg XL.toArray,I6 e])/\Bl w w':=by
 refine Sb v w (λW en w'=>en=.returned (.tuple #[.agg XL.toArray,I6 e])/\Bl W w') _ (λW c hs=>RF v e r a W z (λW' b=>y W' (c.trans (b.mono (by omega))))) ?_;rintro en w' W c hs ⟨rfl,d⟩;exact⟨d,_,_,_,_,e,rfl,NW,λf _ h=>⟨rfl,h⟩⟩
theorem MQ (b H cap n:Nat) (f:Nat->ByteArray) (w:World) (h1:1<=n) (Z:n<=8) (hb:b<w.heap.size) (hm:∀i,i<n->(f i).size<=maxLen) (hr:Sg b H f n w) (Y:∀j,j<n->(Pg.wrong (Y7 (f j)) (f j).size).1=0) (J:¬96<Ye (λj=>Ym (f j)) n):
  Cp 22 #[.slice (some (a_ b H)) n cap] w (Nj (λj=>Si (f j)) n w):=by
 refine Sb _ w (λW=>Nj (λj=>Si (f j)) n W) _ (λW s hs=>Mq b H cap n f W h1 Z (by omega) hm (hr.below hb s) Y J) ?_;rintro en w' W s hs ⟨x,z⟩;refine⟨x,?_⟩;rcases z with ⟨rfl,B⟩|⟨l,t,A,p,r,⟨d,rfl⟩|⟨d,vc,vl,vn,kf,rfl,y,g,k,m,C,D,E⟩⟩
 ·exact⟨_,_,_,_,8,rfl,NW,λo _ h=>⟨h,Or.inl ⟨rfl,B⟩⟩⟩
 ·exact⟨_,_,_,_,9,rfl,NW,λo _ h=>⟨h,Or.inr ⟨l,t,A,p,r,Or.inl ⟨d,rfl⟩⟩⟩⟩
 refine⟨_,_,_,_,0,rfl,?_,λo c h=>⟨h,Or.inr ⟨l,t,A,p,r,Or.inr ⟨d,vc,vl,vn,kf,rfl,y,?_,?_,?_,C,D,E⟩⟩⟩⟩
 ·obtain⟨_,_,u,_⟩:=g.il;obtain⟨_,_,e2,_⟩:=k.il;obtain⟨_,_,v,_⟩:=m.il;show([I6 n,vc,vl,vn]:List Value).toArray.all (·.oneCell')=true;rw[List.all_toArray,u,e2,v];rfl
 ·exact(g.grown c (λq a e=>by have:=Zh e;have:=(g.blk q a).1;omega)).mono (by omega)
 ·exact(k.grown c (λq a e=>by have:=Zh e;have:=(k.blk q a).1;omega)).mono (by omega)
 exact(m.grown c (λq a e=>by have:=Zh e;have:=(m.blk q a).1;omega)).mono (by omega)
end
end Go.Proofs.YtoaaklhpmhjhkaaGreat
