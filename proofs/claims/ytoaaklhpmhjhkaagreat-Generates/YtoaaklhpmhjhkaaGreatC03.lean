import Derived.Deep.AppendLies
import Derived.Test.YtoaaklhpmhjhkaaGreatC02
set_option maxRecDepth 100000
set_option maxHeartbeats 4000000
set_option linter.all false
namespace Go.Proofs.YtoaaklhpmhjhkaaGreat
open Go.RowKit
namespace Bm
def ints (l:List Int):List Value:=l.map λx=>.int .i64 x
theorem ints_append (a b:List Int):ints (a++b)=ints a++ints b:=by simp[ints]
def OwnL (base:Nat) (v:Value) (l:List Int) (w:World):Prop:=w.ownsRow base 3 1 v l.length (ints l)
theorem OwnL.nil (base:Nat) (w:World):OwnL base (sN) [] w:=⟨rfl,Or.inl ⟨rfl,rfl⟩⟩
variable {base:Nat}{v:Value}{w:World}
theorem OwnL.blk {l:List Int} (h:OwnL base v l w):∀k,v.ownBlock=some k->base<=k/\k<w.heap.size:=λk a=>h.lt k a
variable {w':World}
theorem OwnL.keep {l:List Int} (h:OwnL base v l w) (y:∀k,v.ownBlock=some k->w'.heap[k]?=w.heap[k]?):OwnL base v l w':=by
 refine⟨h.1,?_⟩;rcases h.2 with h0|⟨g,cap,a,rfl,h1,h2,h3⟩
 ·exact Or.inl h0
 exact Or.inr ⟨g,cap,a,rfl,h1,by rw[y g rfl];exact h2,h3⟩
theorem OwnL.below {l:List Int} (h:OwnL base v l w) (y:Bl w w'):OwnL base v l w':=h.keep (λk a=>y.block k (h.blk k a).2)
variable {base':Nat}
theorem OwnL.mono {l:List Int} (h:OwnL base v l w) (y:base'<=base):OwnL base' v l w:=
 ⟨h.1,h.2.imp id (λ⟨g,cap,d,a,b,c⟩=>⟨g,cap,d,a,ZJ y b,c⟩)⟩
variable {row:Option Nat}
theorem OwnL.grown {l:List Int} (h:OwnL base v l w) (z:w.grownBy w' row) (y:∀k,v.ownBlock=some k->row≠some k):OwnL base v l w':=
 h.keep (λk a=>z.block k (h.blk k a).2 (λe=>y k a e.symm))
theorem OwnL.il {l:List Int} (h:OwnL base v l w):∃ad cap,v=.slice ad l.length cap/\IL ad (λi=>l.getD i 0) l.length w:=by
 rcases h.2 with ⟨rfl,h0⟩|⟨g,cap,c,rfl,h1,h2,h3,d,e,f⟩
 ·refine⟨none,0,by rw[h0],λi a=>by omega⟩
 refine⟨some (a_ g 0),cap,rfl,λi a=>⟨g,0,rfl,?_⟩⟩;have b:=h.cells (g:=g) rfl i (I6 (l.getD i 0)) (by simp[ints,Zf,a]);rw[Addr.add_lit]at b;exact b
variable {a:Act}{ops:Array Oper}{Q:Exit->Act->World->Prop}{rest:List Oper}{o:Oper}
theorem wpList_append_int (hgd:o.guard=none) (s x:Operand)
  (ho:o.op=.call { callee:=.builtin .append,args:=#[s,x],argTypes:=#[23,23] }) (base:Nat)
  (v:Value) (l:List Int) (hs:a.eval s=v) (hown:OwnL base v l w) (hn:l.length<=1000000)
  (B:Nat) (t:Int) (hx:a.eval x=sL B 1 1) (hnews:w.cell? (a_ B 0)=some (.int .i64 t)) (hbase:base<=w.heap.size) (H:Nat) (hH:w.heap.size=H)
  (h:∀g cap w',OwnL base (sL g (l.length+1) cap) (l++[t]) w'->w.grownBy w' v.ownBlock->(v.ownBlock=some g\/g=H)->g<w'.heap.size->wpList Tryz.prog ops Q rest (a.put o.dst (sL g (l.length+1) cap)) w'):wpList Tryz.prog ops Q (o::rest) a w:=by
 obtain⟨i,k,c,d,e⟩:=Wi;refine wpList_append_lies w hgd s x 23 ho base 3 i (.int .i64 0) 1 8 u_f k c d e rfl (by omega) v l.length (ints l) hs hown (a_ B 0) 1 1 [.int .i64 t] hx rfl (λj u b=>?_) (by simp[Value.oneCell']) (by omega) (by unfold maxLen;omega) (by omega) hbase H hH ?_
 ·rw[Addr.add_lit,Zn];cases j with
  |zero=>simp at b;subst b;exact hnews
  |succ j=>simp at b
 intro g cap w' h1 h2 h3 f;refine h g cap w' ?_ h2 h3 f;unfold OwnL;rw[ints_append,Zl];exact h1
def TC (t:Nat) (L:List Value) (w:World):Prop:=∀k v,L[k]?=some v->w.cell? ⟨t,k,none⟩=some v/\w.frozen? ⟨t,k,none⟩=false
variable {L:List Value}{t:Nat}
theorem TC.block (h:TC t L w) (y:w'.heap[t]?=w.heap[t]?):TC t L w':=λk v b=>by
 rw[World.cell?_of_block (w:=w) (a:=(a_ t k)) y,World.frozen?_of_block (w:=w) (a:=(a_ t k)) y];exact h k v b
theorem TC.lt (h:TC t (v::L) w):t<w.heap.size:=Ze w _ (h 0 v rfl).1
theorem TC.below (h:TC t (v::L) w) (y:Bl w w'):TC t (v::L) w':=h.block (y.block t h.lt)
theorem TC.set (h:TC t L w) (q:Nat) (y:q<L.length) (u:Value):TC t (L.set q u) (w.setCell (a_ t q) u):=λk v a=>by
 rw[World.frozen?_setCell];by_cases e:k=q
 ·subst e;rw[List.getElem?_set_self y]at a;obtain⟨h1,h2⟩:=h k L[k] (Zd y);cases a;exact⟨World.cell?_setCell_same w (a_ t k) u (by rw[h1]),h2⟩
 rw[List.getElem?_set_ne (λx=>e x.symm)]at a;obtain⟨h1,h2⟩:=h k v a;exact⟨by rw[World.cell?_setCell_other _ _ _ _ (by intro b;cases b;exact e rfl)];exact h1,h2⟩
theorem TC.range (h:TC t L w):w.rangeAt t 0 L:=λk v a=>by rw[Zn];exact(h k v a).1
theorem TC.there (h:TC t L w):w.there t 0 L.length:=λj a=>by
 rw[Zn];obtain⟨h1,h2⟩:=h j L[j] (Zd a);exact⟨by rw[h1];rfl,h2⟩
theorem TC.boxed (w:World) (L:List Value) (y:TypeId):TC w.heap.size L (w.alloc (.cells L.toArray y)):=λk v a=>by
 refine⟨by rw[Zm];simpa using a,?_⟩;go_simp
theorem box_bel (w:World) (o:Obj):Bl w (w.alloc o):=(Zk _ _).alloc (Zg _) o
variable {fn:Func}{p:Tmp}
theorem res_cell1 {y:TypeId} (h:fn.results=#[.cell p y]) (tmps:Array Value) (P:Program) (w:World):
  (results fn tmps).run P w=((asAddr (tmps.getD p undef)).run P w).andThen λa w₁=>(loadVar y a).run P w₁:=by
 simp only[results,h];simp[Sem.run_bind,Result.andThen]
variable {tmps:Array Value}
theorem res_load1 {y:TypeId}{P:Program}{ad:Addr} (h:fn.results=#[.cell p y]) (H:tmps.getD p undef=.pointer (some ad)) (z:(loadVar y ad).run P w=.ok v w):
  (results fn tmps).run P w=.ok v w:=by
 rw[res_cell1 h,H];simp[asAddr,z]
end Bm
namespace Bu
open Go.RowKit
open Bm
def triC (r:Int) (vv:Nat->Value):Array Value:=#[.int .i64 r,vv 1,vv 2,vv 3]
end Bu
def Wr (b base:Nat) (l:List UInt8) (w:World):Prop:=
 b<base/\w.frozen? ⟨b,0,none⟩=false/\∃v,w.cell? ⟨b,0,none⟩=some v/\X7 base v (Tv l) w
def Vx (b base:Nat) (w:World) (l:List UInt8) (e:Ending) (w':World):Prop:=e=.returned (.tuple #[])/\Wr b base l w'/\Below b w w'
theorem XQ (b base:Nat) (l:List UInt8) (x:Int) (w:World) (H:base<=w.heap.size) (J:l.length<=1000000) (h:Wr b base l w):
  Cp 78 #[pT b,I6 x] w (Vx b base w (l++[Y3 x])):=by
 obtain⟨h0,h1,v,h2,h3⟩:=h;obtain⟨i,C,s,t,y⟩:=Sq;have z:=h3.alloc (.cells #[.int .u8 (x%256)] 5);have n:∀j u,[Value.int .u8 (x%256)][j]?=some u->(w.alloc (.cells #[.int .u8 (x%256)] 5)).cell? (a_ w.heap.size j)=some u:=λj u D=>by
  rw[Zm];simpa using D
 have f:b<w.heap.size:=Ze w _ h2;have m:some b≠v.ownBlock:=λe=>by have:=h3.ge b e.symm;omega
 have o:(w.alloc (.cells #[.int .u8 (x%256)] 5)).cell? (a_ b 0)=some v:=by rw[World.cell?_alloc_lt _ _ _ (by exact f)];exact h2
 have q:(w.alloc (.cells #[.int .u8 (x%256)] 5)).frozen? (a_ b 0)=false:=by
  rw[World.frozen?_of_block (w:=w) (a:=(a_ b 0)) (Below.heap_alloc w _ b f)];exact h1
 have A:Below b w (w.alloc (.cells #[.int .u8 (x%256)] 5)):=(Zk _ _).alloc (by omega) _;go_enter Tryz.func78,Tryz.ntmps78;go_wp2_with (first|(at_builtin;refine Tt (by rfl) _ _ 99 5 (by rfl) i (.int .u8 0) 1 u_e C s t y rfl (by omega) base v (Tv l) (by rfl) z w.heap.size 1 [.int .u8 (x%256)] (by rfl) rfl n (by simp[Value.oneCell']) (by rw[TJ];omega) (by simp;omega) (by omega) ?_;intro g cap w2 d c;have E:=c.cell o m;have F:w2.frozen? (a_ b 0)=false:=(c.frozen_far (a_ b 0) (by simp;omega) m).trans q));go_end0;refine⟨rfl,⟨h0,?_,sL g ((Tv l).length+1) cap,?_,?_⟩,?_⟩
 ·rw[World.frozen?_setCell];exact F
 ·exact World.cell?_setCell_same w2 (a_ b 0) _ (by rw[E])
 ·have B:Tv (l++[Y3 x])=Tv l++[.int .u8 (x%256)]:=by rw[Nz];simp[Tv,Yq]
  rw[B];refine d.block (by simp[World.setCell]) (λk _ r=>Zq w2 (a_ b 0) _ k (λe=>?_));have:=d.ge k r;have e':k=b:=e;omega
 refine(A.grown c (by simp;omega) (λk r=>by have:=h3.ge k r;omega)).setCell (p:=(a_ b 0)) (Zg _) _
theorem PZ (b base:Nat) (l:List UInt8) (x:Int) (w:World) (y:base<=w.heap.size) (z:l.length<=900000) (h:Wr b base l w):
  Cp 79 #[pT b,I6 x] w (Vx b base w (l++[Y3 (x/256),Y3 x])):=by
 have f:=hyd (XQ b base l (x/256) w y (by omega) h);have g:Hid (∀w',Wr b base (l++[Y3 (x/256)]) w'->base<=w'.heap.size->Cp 78 #[pT b,I6 x] w' (Vx b base w' ((l++[Y3 (x/256)])++[Y3 x]))):=λw' i d=>XQ b base _ x w' d (by simp;omega) i
 go_enter Tryz.func79,Tryz.ntmps79;go_wp2_with fail;refine f.out.mono ?_;rintro e w1 ⟨rfl,h1,a⟩;go_wp2_with fail;refine(g w1 h1 (ZJ y a.size)).mono ?_;rintro e w2 ⟨rfl,h2,c⟩;go_wp2;go_end0;exact⟨rfl,by simpa using h2,a.trans c⟩
def XJ (f:Nat->Int) (n:Nat) (more:Int):List UInt8:=(List.range n).map λi=>Y3 (f i+more)
theorem Sx (f:Nat->Int) (n:Nat) (more:Int):XJ f (n+1) more=XJ f n more++[Y3 (f n+more)]:=by simp[XJ,ZT]
theorem Xg (f:Nat->Int) (n:Nat) (more:Int):(XJ f n more).length=n:=by simp[XJ]
def X4 (f:Nat->Int) (n:Nat) (wide:Int):List UInt8:=(List.range n).flatMap λi=>if wide=2 then [Y3 (f i/256),Y3 (f i)] else [Y3 (f i)]
theorem VE (f:Nat->Int) (n:Nat) (y:Int):X4 f (n+1) y=X4 f n y++(if y=2 then [Y3 (f n/256),Y3 (f n)] else [Y3 (f n)]):=by simp[X4,ZT]
theorem UX (f:Nat->Int) (y:Int):∀n,(X4 f n y).length<=2*n
 |0=>by simp[X4]
 |n+1=>by
  rw[VE,Zl];have:=UX f y n;split<;>(simp;omega)
def XI (f g:Nat->Int) (n:Nat):List UInt8:=(List.range n).flatMap λi=>[Y3 (f i+1),Y3 (g i+1)]
theorem SQ (f g:Nat->Int) (n:Nat):XI f g (n+1)=XI f g n++[Y3 (f n+1),Y3 (g n+1)]:=by simp[XI,ZT]
theorem U0 (f g:Nat->Int):∀n,(XI f g n).length=2*n
 |0=>by simp[XI]
 |n+1=>by rw[SQ,Zl,U0 f g n];simp;omega
theorem Ti (b base:Nat) (l:List UInt8) (ad:Option Addr) (n cap:Nat) (f:Nat->Int) (more:Int) (w0 w:World) (J:base<=w.heap.size) (Z:l.length+n<=900000) (hm:0<=more/\more<=1) (Y:∀i,i<n->-1<=f i/\f i<=1000000)
  (z:w0.heap.size<=b) (H:IL ad f n w0) (y:Bl w0 w) (h:Wr b base l w):
  Cp 80 #[pT b,.slice ad n cap,I6 more] w (Vx b base w (l++XJ f n more)):=by
 have o:=hyd H;have m:=hyd Y;go_enter Tryz.func80,Tryz.ntmps80;go_wp2
 go_loopw [10] (λi w'=>∃k:Nat,k<=n/\i=I6 k/\Wr b base (l++XJ f k more) w'/\Below b w w') (λi _=>n-(intOf i).toNat)
 ·exact⟨0,by omega,rfl,by simpa[XJ]using h,Zk _ _⟩
 obtain⟨k,s,rfl,a,d⟩:=hrel;by_cases c:k<n
 ·have j:(k:Int)<n:=by omega
  obtain⟨r,t,rfl,c1⟩:=o.out.below (y.trans (d.mono z)) k c;have q:=m.out k c;have p:Hid (Cp 78 #[pT b,I6 (f k+more)] wr (Vx b base wr (l++XJ f (k+1) more))):=by
   have:=XQ b base (l++XJ f k more) (f k+more) wr (ZJ J d.size) (by rw[Zl,Xg];omega) a;rw[Zs,<-Sx]at this;exact this
  generalize f k=x at *;go_wp2_with fail;refine p.out.mono ?_;rintro e w2 ⟨rfl,h2,g⟩;go_wp2;go_roundw
  ·exact⟨k+1,by omega,by go_num,h2,d.trans g⟩
  simp[intOf];omega
 have⟨hge,hkn⟩:¬(k:Int)<n/\k=n:=by omega
 subst hkn;go_wp2;go_end0;exact⟨rfl,a,d⟩
theorem LI (b base:Nat) (l:List UInt8) (ad:Option Addr) (n cap:Nat) (f:Nat->Int) (y:Int) (w0 w:World) (J:base<=w.heap.size) (Z:l.length+2*n<=900000)
  (H:w0.heap.size<=b) (Y:IL ad f n w0) (z:Bl w0 w) (h:Wr b base l w):
  Cp 81 #[pT b,.slice ad n cap,I6 y] w (Vx b base w (l++X4 f n y)):=by
 have p:=hyd Y;go_enter Tryz.func81,Tryz.ntmps81;go_wp2
 go_loopw [10] (λi w'=>∃k:Nat,k<=n/\i=I6 k/\Wr b base (l++X4 f k y) w'/\Below b w w') (λi _=>n-(intOf i).toNat)
 ·exact⟨0,by omega,rfl,by simpa[X4]using h,Zk _ _⟩
 obtain⟨k,r,rfl,c,d⟩:=hrel;by_cases j:k<n
 ·have o:(k:Int)<n:=by omega
  obtain⟨q,s,rfl,c1⟩:=p.out.below (z.trans (d.mono H)) k j;have m:=UX f y k;by_cases h2:y=2
  ·have g:Hid (Cp 79 #[pT b,I6 (f k)] wr (Vx b base wr (l++X4 f (k+1) y))):=by
    have:=PZ b base (l++X4 f k y) (f k) wr (ZJ J d.size) (by rw[Zl];omega) c;rw[Zs]at this;rw[VE,if_pos h2];exact this
   subst h2;generalize f k=x at *;go_wp2_with fail;refine g.out.mono ?_;rintro e w2 ⟨rfl,h2,a⟩;go_wp2;go_roundw
   ·exact⟨k+1,by omega,by go_num,h2,d.trans a⟩
   simp[intOf];omega
  have g:Hid (Cp 78 #[pT b,I6 (f k)] wr (Vx b base wr (l++X4 f (k+1) y))):=by
   have:=XQ b base (l++X4 f k y) (f k) wr (ZJ J d.size) (by rw[Zl];omega) c;rw[Zs]at this;rw[VE,if_neg h2];exact this
  have t:(y==2)=false:=by simpa using h2
  generalize f k=x at *;go_wp2_with fail;refine g.out.mono ?_;rintro e w2 ⟨rfl,h2,a⟩;go_wp2;go_roundw
  ·exact⟨k+1,by omega,by go_num,h2,d.trans a⟩
  simp[intOf];omega
 have⟨hge,hkn⟩:¬(k:Int)<n/\k=n:=by omega
 subst hkn;go_wp2;go_end0;exact⟨rfl,c,d⟩
theorem LJ (b base:Nat) (l:List UInt8) (ad H:Option Addr) (n cap J:Nat) (f f':Nat->Int) (w0 w:World) (hb:base<=w.heap.size) (hl:l.length+2*n<=900000) (hf:∀i,i<n->(-1<=f i/\f i<=1000000)/\(-1<=f' i/\f' i<=1000000))
  (Z:w0.heap.size<=b) (hI:IL ad f n w0) (aa:IL H f' n w0) (Y:Bl w0 w) (h:Wr b base l w):
  Cp 82 #[pT b,.slice ad n cap,.slice H n J] w (Vx b base w (l++XI f f' n)):=by
 have z:=hyd hI;have j:=hyd aa;have y:=hyd hf;go_enter Tryz.func82,Tryz.ntmps82;go_wp2
 go_loopw [10] (λi w'=>∃k:Nat,k<=n/\i=I6 k/\Wr b base (l++XI f f' k) w'/\Below b w w') (λi _=>n-(intOf i).toNat)
 ·exact⟨0,by omega,rfl,by simpa[XI]using h,Zk _ _⟩
 obtain⟨k,D,rfl,g,d⟩:=hrel;by_cases c:k<n
 ·have u:(k:Int)<n:=by omega
  obtain⟨C,E,rfl,c1⟩:=z.out.below (Y.trans (d.mono Z)) k c;have B:=y.out k c;have t:=U0 f f' k;have A:Hid (Cp 78 #[pT b,I6 (f k+1)] wr (Vx b base wr (l++XI f f' k++[Y3 (f k+1)]))):=
   XQ b base (l++XI f f' k) (f k+1) wr (ZJ hb d.size) (by rw[Zl];omega) g
  have m:Hid (∀w',Wr b base (l++XI f f' k++[Y3 (f k+1)]) w'->base<=w'.heap.size->Cp 78 #[pT b,I6 (f' k+1)] w' (Vx b base w' (l++XI f f' (k+1)))):=λw' p r=>by
   have:=XQ b base (l++XI f f' k++[Y3 (f k+1)]) (f' k+1) w' r (by simp only[Zl,List.length_cons,List.length_nil];omega) p;rw[Zs,Zs]at this;rw[SQ];exact this
  have v:Hid (∀w',Below b wr w'->∃o s,H=some (a_ o s)/\w'.cell? (a_ o (s+k))=some (I6 (f' k))):=λw' p=>j.out.below (Y.trans ((d.trans p).mono Z)) k c
  generalize f k=x at *;generalize f' k=x' at *;go_wp2_with fail;refine A.out.mono ?_;rintro e w2 ⟨rfl,h2,a⟩;obtain⟨o,s,rfl,c2⟩:=v.out w2 a;go_wp2_with fail;refine(m w2 h2 (ZJ (ZJ hb d.size) a.size)).mono ?_;rintro e w3 ⟨rfl,h3,q⟩;go_wp2;go_roundw
  ·exact⟨k+1,by omega,by go_num,h3,(d.trans a).trans q⟩
  simp[intOf];omega
 have⟨hge,hkn⟩:¬(k:Int)<n/\k=n:=by omega
 subst hkn;go_wp2;go_end0;exact⟨rfl,g,d⟩
def YB (f:Nat->Int):Nat->Int
 |0=>1
 |k+1=>if 255<f k then 2 else YB f k
theorem Ro (f:Nat->Int):∀k,YB f k=1\/YB f k=2
 |0=>Or.inl rfl
 |k+1=>by rw[YB];split;exact Or.inr rfl;exact Ro f k
variable {a:Act}{ops:Array Oper}{Q:Exit->Act->World->Prop}{rest:List Oper}{b base c g k n:Nat}{f f':N_}{o:Oper}{v:Value}{w w':World}
theorem OW {f:Nat->Int} (h:YB f k=2):∀d,YB f (k+d)=2
 |0=>h
 |d+1=>by rw[<-ZN,YB,OW h d];split<;>rfl
def UI (T:Tb):List UInt8:=
 [77,85,78,49]++[Y3 T.rules,Y3 ((Vg T.cl T.ncl:Int)-1),Y3 T.nlb,Y3 ((T.nck:Int)/256),Y3 T.nck,Y3 (YB T.bs T.nbs)] ++
  XJ T.cl T.ncl 0++XJ T.lb T.nlb 1++X4 T.bs T.nbs (YB T.bs T.nbs)++XJ T.df T.ndf 1++XI T.ck T.nx T.nck
def R0 (T:Tb):List UInt8:=UI T++Uv (UI T)
theorem Me (a b:List UInt8):(⟨(a++b).toArray⟩:ByteArray)=⟨a.toArray⟩++⟨b.toArray⟩:=by
 apply ByteArray.ext;simp
def H9 (T:Tb) (w:World) (e:Ending) (w':World):Prop:=
 Below w.heap.size w w'/\((QE T/\e=.returned (.tuple #[.string ⟨(R0 T).toArray⟩,.int .i64 0]))\/(¬QE T/\e=.returned (.tuple #[.string ⟨#[]⟩,.int .i64 11])))
theorem KY (ad:Option Addr) (n cap:Nat) (f:Nat->Int) (w:World) (y:n<=maxLen) (h:IL ad f n w):
  Cp 77 #[.slice ad n cap] w λe w'=>e=.returned (I6 (YB f n))/\w'=w:=by
 unfold maxLen at y;have H:=hyd h;go_enter Tryz.func77,Tryz.ntmps77;go_wp2
 go_loop [7] (λi=>∃k:Nat,k<=n/\i=I6 k/\Hid (YB f k=1)) (λi=>n-(intOf i).toNat)
 ·exact⟨0,by omega,rfl,rfl⟩
 obtain⟨k,l,rfl,d⟩:=hrel;by_cases c:k<n
 ·have g:(k:Int)<n:=by omega
  obtain⟨b,j,rfl,c1⟩:=H.out k c;by_cases h1:255<f k
  ·have a:Hid (YB f n=2):=by
    have:YB f (k+1)=2:=by rw[YB,if_pos h1]
    have:=OW this (n-(k+1));rw[show k+1+(n-(k+1))=n by omega]at this;exact this
   go_wp2;go_ret;exact⟨YY a.out.symm,rfl⟩
  have a:Hid (YB f (k+1)=1):=by show _=_;rw[YB,if_neg h1];exact d.out
  go_wp2
  go_round
  ·exact⟨k+1,by omega,by go_num,a⟩
  simp[intOf];omega
 have⟨hge,hkn⟩:¬(k:Int)<n/\k=n:=by omega
 subst hkn;go_wp2;go_ret;exact⟨YY d.out.symm,rfl⟩
theorem X7.magic (base:Nat) (w:World) (y:base<=w.heap.size):X7 base (.slice (some (a_ w.heap.size 0)) 4 4) (Tv [77,85,78,49]) (w.alloc (.cells #[.int .u8 77,.int .u8 85,.int .u8 78,.int .u8 49] 5 (4,5))):=by
 refine Or.inr ⟨w.heap.size,4,rfl,y,by simp,by simp[Tv],λj u a=>?_,λj b=>?_⟩
 ·rw[World.cell?_alloc_mark];simpa[Tv]using a
 rw[World.cell?_alloc_mark];refine⟨by rcases j with _|_|_|_|j<;>first|rfl|omega,?_⟩;have:(w.alloc (.cells #[.int .u8 77,.int .u8 85,.int .u8 78,.int .u8 49] 5 (4,5))).heap[w.heap.size]?=some (.cells #[.int .u8 77,.int .u8 85,.int .u8 78,.int .u8 49] 5 (4,5)):=heap_alloc_new w _;generalize w.alloc (.cells #[.int .u8 77,.int .u8 85,.int .u8 78,.int .u8 49] 5 (4,5))=W at *;simp[World.frozen?,this];omega
theorem PI {f:Nat->Int}:∀ {k n:Nat},XW f k=some n->∀i,i<k->0<=f i/\f i<k
 |0,_,_,i,hi=>by omega
 |k+1,n,h,i,hi=>by
  rw[XW]at h;rcases hc:XW f k with _|m
  ·rw[hc]at h;cases h
  have b:=NB hc;rw[hc]at h;simp only at h;split at h
  ·cases h
  rename_i a;by_cases e:i=k
  ·subst e;omega
  have:=PI hc i (by omega);omega
theorem Ge {f:Nat->Int} (h:0<Vg f n) (i:Nat) (y:i<n):0<=f i/\f i<256:=by
 unfold Vg at h;split at h
 ·rename_i a;rcases hc:XW f 256 with _|m
  ·rw[hc]at h;simp at h
  exact PI hc i (by omega)
 omega
theorem Wr.heap {l:List UInt8} (h:Wr b base l w) (y:w'.heap=w.heap):Wr b base l w':=by
 obtain⟨h0,h1,v,h2,h3⟩:=h;refine⟨h0,?_,v,?_,h3.block (by rw[y];exact Zg _) (λk _ _=>by rw[y])⟩
 ·rw[World.frozen?_of_block (w:=w) (a:=(a_ b 0)) (by rw[y])];exact h1
 rw[World.cell?_of_block (w:=w) (a:=(a_ b 0)) (by rw[y])];exact h2
theorem Pv (b:Nat) (T:Tb) (A:Pc) (w:World) (hs:IF T) (h:UP b T A w) (hI:Sh T A w):
  Cp 36 #[pT b] w (H9 T w):=by
 have HS:=hyd (LZ b T A w hs h hI);have m1:T.ncl<=maxLen:=by have:=hs.s1;unfold maxLen;omega
 have m3:T.nbs<=maxLen:=by have:=hs.s3;unfold maxLen;omega
 have HI:Hid (∀w',Bl w w'->Sh T A w'):=λw' hW=>hI.below hW
 have l:Hid (∀w',Bl w w'->UP b T A w'):=λw' hW=>h.below hW
 have a7:=h.lt;clear hI h;go_enter Tryz.func36,Tryz.ntmps36;go_wp2_with fail;refine HS.out.mono ?_;rintro e w1 ⟨bb,rfl,K,m⟩;clear HS;cases bb
 ·have HN:Hid (¬QE T):=λh=>by have:=K.2 h;cases this
  clear K;go_wp2_with fail;go_ret2;exact⟨m,Or.inr ⟨HN,rfl⟩⟩
 have G:=K.1 rfl;clear K;have F:=hyd G;have ao:=G.hd.2.2.1;have aQ:=SS T.cl T.ncl;have hr:=G.hd.1;have hl:=G.hd.2.1;have e3:=G.e3;have e4:=G.e4;have e6:=G.e6;have e5:=G.e5;have Z:T.ncl=256:=by
  rcases Nat.decEq T.ncl 256 with h|h
  ·simp[Vg,h]at ao
  exact h
 have F1:Hid (Cp 77 #[.slice A.a3 T.nbs A.c3] w1 λe w'=>e=.returned (.int .i64 (YB T.bs T.nbs))/\w'=w1):=KY _ _ _ _ _ m3 (HI w1 m).l3;have F2:Hid (Cp 71 #[.slice A.a1 T.ncl A.c1] w1 λe w'=>e=.returned (.int .i64 (Vg T.cl T.ncl))/\w'=w1):=Xa _ _ _ _ _ m1 (HI w1 m).l1;have kc:(convert 99 99 (.slice (some (a_ (w1.heap.size+1) 0)) 4 4)).run Tryz.prog ((w1.alloc (.cells #[sN] 166)).alloc (.cells #[.int .u8 77,.int .u8 85,.int .u8 78,.int .u8 49] 5))=.ok (.slice (some (a_ (w1.heap.size+1) 0)) 4 4) ((w1.alloc (.cells #[sN] 166)).alloc (.cells #[.int .u8 77,.int .u8 85,.int .u8 78,.int .u8 49] 5 (4,5))):=by
  have:=Lib.run_convert_bytes_const (P:=Tryz.prog) (w1.alloc (.cells #[sN] 166)) 99 5 #[.int .u8 77,.int .u8 85,.int .u8 78,.int .u8 49] 4 4 u_e u_g;have E:(w1.alloc (.cells #[sN] 166)).heap.size=w1.heap.size+1:=by simp
  rw[E]at this;exact this
 have aO:=ZH a7 m.size;obtain⟨d,a9⟩:=nam w1.heap.size;obtain⟨W,f⟩:=nam (((w1.alloc (.cells #[sN] 166)).alloc (.cells #[.int .u8 77,.int .u8 85,.int .u8 78,.int .u8 49] 5 (4,5))));rw[<-f]at kc;have n:(w1.alloc (.cells #[sN] 166)).heap.size=w1.heap.size+1:=by simp
 have Y:W.heap.size=w1.heap.size+2:=by rw[f];simp
 have aR:W.cell? (a_ w1.heap.size 0)=some (sN):=by
  rw[f,World.cell?_alloc_lt _ _ _ (by rw[n];exact Nat.lt_succ_self _),Zm];rfl
 have aS:W.frozen? (a_ w1.heap.size 0)=false:=by
  rw[f,World.frozen?_of_block (w:=w1.alloc (.cells #[sN] 166)) (a:=(a_ w1.heap.size 0)) (Below.heap_alloc _ _ _ (by rw[n];exact Nat.lt_succ_self _))];go_simp
 have V:Bl w1 W:=by
  rw[f];exact((Zk _ _).alloc (Zg _) _).alloc (by rw[n];omega) _
 have ak:X7 (w1.heap.size+1) (.slice (some (a_ (w1.heap.size+1) 0)) 4 4) (Tv [77,85,78,49]) W:=by
  have:=X7.magic (w1.heap.size+1) (w1.alloc (.cells #[sN] 166)) (by rw[n];exact Zg _);rw[n,<-f]at this;exact this
 clear f n;have aj:=m.trans (V.mono m.size);have aK:Bl w (W.setCell (a_ w1.heap.size 0) (.slice (some (a_ (w1.heap.size+1) 0)) 4 4)):=aj.setCell (p:=(a_ w1.heap.size 0)) m.size _;have aN:Wr w1.heap.size (w1.heap.size+1) [77,85,78,49] (W.setCell (a_ w1.heap.size 0) (.slice (some (a_ (w1.heap.size+1) 0)) 4 4)):=
  ⟨Nat.lt_succ_self _,by rw[World.frozen?_setCell];exact aS,_,World.cell?_setCell_same W (a_ w1.heap.size 0) _ (by rw[aR]),ak.block (by simp[World.setCell]) (λk _ hk=>Zq W (a_ w1.heap.size 0) _ k (λe=>by have:=ak.ge k hk;have e':k=w1.heap.size:=e;omega))⟩
 obtain⟨d0,d1,d2,d3,d4,d5,d6⟩:=l.out w1 m;have f0:=(l W aj).c0;have bd:b≠w1.heap.size:=by omega
 have o:Hid ((0<Vg T.cl T.ncl/\Vg T.cl T.ncl<=256)/\(1<=T.rules/\T.rules<=8)/\(1<=T.nlb/\T.nlb<=96)/\T.nbs=T.nlb/\T.ndf=T.nlb/\T.nnx=T.nck/\T.nck<=24576/\T.ncl=256):=⟨⟨ao,aQ⟩,hr,hl,e3,e4,e6,e5,Z⟩;have aG:=hyd aN;have aF:=hyd aK;clear G e3 e4 e6 e5 Z ak V aj aK aN a9 ao aQ hr hl;go_wp2_with fail;refine F1.out.mono ?_;rintro e w1 ⟨rfl,rfl⟩;go_wp2_with fail;refine F2.out.mono ?_;rintro e w1 ⟨rfl,rfl⟩;clear F1 F2;go_wp2_with fail;have E:w1.heap.size+1<=(W.setCell (a_ w1.heap.size 0) (.slice (some (a_ (w1.heap.size+1) 0)) 4 4)).heap.size:=by simp[World.setCell,Y]
 have c:=m.size;clear d0 d1 d2 d3 d4 d5 d6 f0 aR aS Y kc m aO bd;generalize W.setCell (a_ w1.heap.size 0) (.slice (some (a_ (w1.heap.size+1) 0)) 4 4)=W2 at *;generalize w1.heap.size=d at *;have r:=hyd (HI w (Zk _ _));have aB:Hid (∀i,i<T.ncl->-1<=T.cl i/\T.cl i<=1000000):=λi hi=>by have:=Ge o.out.1.1 i hi;omega
 have aC:Hid (∀i,i<T.nlb->-1<=T.lb i/\T.lb i<=1000000):=λi hi=>by have h1:=F.out.hd.2.2.2 i hi;have h2:=o.out.2.1;omega
 have aD:Hid (∀i,i<T.ndf->-1<=T.df i/\T.df i<=1000000):=λi hi=>by have h0:=o.out;have h1:=F.out.b4 i (by omega);omega
 have aE:Hid (∀i,i<T.nck->(-1<=T.ck i/\T.ck i<=1000000)/\(-1<=T.nx i/\T.nx i<=1000000)):=λi hi=>by
  have h0:=o.out;rcases F.out.cs i hi with h|h
  ·omega
  omega
 obtain⟨⟨bf,bi⟩,⟨bn,bp⟩,⟨bj,bm⟩,n3,n4,n6,n5,n1⟩:=o.out;have N3:=hyd n3;have N4:=hyd n4;have N6:=hyd n6;have N1:=hyd n1;clear n3 n4 n6 n1;have aP:=UX T.bs (YB T.bs T.nbs) T.nbs;refine Calls.mono (XQ d (d+1) [77,85,78,49] T.rules W2 E (by simp) aG) ?_;rintro e w3 ⟨rfl,h3,ab⟩;have aL:=aF.out.trans (ab.mono c);have ap:=ZJ E ab.size;have L:=hyd h3;clear h3 ab aF aG E;go_wp2_with fail;refine Calls.mono (XQ d (d+1) _ ((Vg T.cl T.ncl:Int)-1) w3 ap (by simp) L) ?_;rintro e w4 ⟨rfl,h4,ac⟩;have al:=aL.trans (ac.mono c);have aq:=ZJ ap ac.size;have d4:=(l w4 al).c2;have M:=hyd h4;clear h4 ac aL L ap;go_wp2_with fail;refine Calls.mono (XQ d (d+1) _ (T.nlb:Int) w4 aq (by simp) M) ?_;rintro e w5 ⟨rfl,h5,ae⟩;have am:=al.trans (ae.mono c);have ar:=ZJ aq ae.size;have d5:=(l w5 am).c5;have N:=hyd h5;clear h5 ae al M aq d4;go_wp2_with fail;refine Calls.mono (PZ d (d+1) _ (T.nck:Int) w5 ar (by simp) N) ?_;rintro e w6 ⟨rfl,h6,af⟩;have aM:=am.trans (af.mono c);have au:=ZJ ar af.size;have O:=hyd h6;clear h6 af am N ar d5;go_wp2_with fail;refine Calls.mono (XQ d (d+1) _ (YB T.bs T.nbs) w6 au (by simp) O) ?_;rintro e w7 ⟨rfl,h7,ag⟩;have H:=aM.trans (ag.mono c);have av:=ZJ au ag.size;have d7:=(l w7 H).c1;have az:Hid ((((([77,85,78,49]++[Y3 T.rules])++[Y3 ((Vg T.cl T.ncl:Int)-1)])++[Y3 T.nlb])++[Y3 ((T.nck:Int)/256),Y3 T.nck])++[Y3 (YB T.bs T.nbs)]=[77,85,78,49]++[Y3 T.rules,Y3 ((Vg T.cl T.ncl:Int)-1),Y3 T.nlb,Y3 ((T.nck:Int)/256),Y3 T.nck,Y3 (YB T.bs T.nbs)]):=by show _=_;simp
 rw[az.out]at h7;generalize hH:([77,85,78,49]++[Y3 T.rules,Y3 ((Vg T.cl T.ncl:Int)-1),Y3 T.nlb,Y3 ((T.nck:Int)/256),Y3 T.nck,Y3 (YB T.bs T.nbs)]:List UInt8)=HD at h7;have be:HD.length=10:=by rw[<-hH];rfl
 have HH:Hid (UI T=((((HD++XJ T.cl T.ncl 0)++XJ T.lb T.nlb 1)++X4 T.bs T.nbs (YB T.bs T.nbs))++XJ T.df T.ndf 1)++XI T.ck T.nx T.nck):=by show _=_;rw[<-hH];rfl
 have Q:=hyd h7;clear h7 ag aM O au az hH;go_wp2_with fail;refine Calls.mono (Ti d (d+1) HD A.a1 T.ncl A.c1 T.cl 0 w w7 av (by have:=N1.out;omega) (by omega) aB c r.out.l1 H Q) ?_;rintro e w8 ⟨rfl,h8,ah⟩;have I:=H.trans (ah.mono c);have aw:=ZJ av ah.size;have d8:=(l w8 I).c2;have R:=hyd h8;clear h8 ah H Q av d7;go_wp2_with fail;refine Calls.mono (Ti d (d+1) _ A.a2 T.nlb A.c2 T.lb 1 w w8 aw (by have:=N1.out;rw[Zl,Xg];omega) (by omega) aC c r.out.l2 I R) ?_;rintro e w9 ⟨rfl,h9,ai⟩;have J:=I.trans (ai.mono c);have ax:=ZJ aw ai.size;have d9:=(l w9 J).c3;have S:=hyd h9;clear h9 ai I R aw d8;go_wp2_with fail;refine Calls.mono (LI d (d+1) _ A.a3 T.nbs A.c3 T.bs (YB T.bs T.nbs) w w9 ax (by have:=N1.out;have:=N3.out;simp only[Zl,Xg];omega) c r.out.l3 J S) ?_;rintro e aT ⟨rfl,aH,y⟩;have s:=J.trans (y.mono c);have D:=ZJ ax y.size;have aW:=(l aT s).c4;have u:=hyd aH;clear aH y J S ax d9;go_wp2_with fail;refine Calls.mono (Ti d (d+1) _ A.a4 T.ndf A.c4 T.df 1 w aT D (by have:=N1.out;have:=N3.out;have:=N4.out;simp only[Zl,Xg];omega) (by omega) aD c r.out.l4 s u) ?_;rintro e ay ⟨rfl,aI,z⟩;have q:=s.trans (z.mono c);have aa:=ZJ D z.size;have aX:=(l ay q).c5;have aY:=(l ay q).c6;have x:=hyd aI;clear aI z s u D aW;have aA:Hid (∀w',w'.heap=ay.heap->Bl w w'->Cp 82 #[pT d,.slice A.a5 T.nck A.c5,.slice A.a6 T.nnx A.c6] w' (Vx d (d+1) w' (UI T))):=λw' hw a0=>by
  rw[HH.out,N6.out];exact LJ d (d+1) _ A.a5 A.a6 T.nck A.c5 A.c6 T.ck T.nx w w' (by rw[hw];exact aa) (by have:=N1.out;have:=N3.out;have:=N4.out;simp only[Zl,Xg];omega) aE.out c r.out.l5 (by rw[<-N6.out];exact r.out.l6) a0 (x.out.heap hw)
 go_wp2_with fail
 go_region_with ((go_at_call 82;refine Calls.mono (aA _ rfl q.drew) ?_;rintro e t ⟨rfl,aZ,U⟩))
 all_goals
  have X:=q.drew.trans (U.mono c);have an:(UI T).length<=1000000:=by
   have:=N1.out;have:=N3.out;have:=N4.out;rw[HH.out];simp only[Zl,Xg,U0];omega
  have a8:0<(UI T).length:=by rw[HH.out];simp only[Zl];omega
  obtain⟨_,q1,v,q2,q3⟩:=aZ;clear U aA x HH aa aX aY q aP aB aC aD aE r;generalize B:UI T=body at *;have HF:Hid (R0 T=body++Uv body):=by show _=_;rw[R0,B]
  clear B;rcases q3 with ⟨_,h⟩|⟨g,cap,rfl,_,_,_,q4,_⟩
  ·have:(Tv body).length=0:=by rw[h];rfl
   rw[TJ]at this;omega
  rw[TJ]at q2;obtain⟨s1,C⟩:∃s1:ByteArray,s1=⟨body.toArray⟩:=⟨_,rfl⟩;obtain⟨s2,hs2⟩:∃s2:ByteArray,s2=⟨(Uv body).toArray⟩:=⟨_,rfl⟩;have z1:s1.size<=1000000:=by rw[C];simpa[ByteArray.size]using an
  have z2:s2.size=4:=by rw[hs2];rfl
  have bc:(convert 99 9 (sL g body.length cap)).run Tryz.prog t=.ok (.string s1) t:=by
   rw[C];exact run_convert_bytes_back (P:=Tryz.prog) t 99 9 5 (a_ g 0) cap body u_e u_g u_i (λj hj=>by
    rw[Addr.add_lit,Zn];exact q4 j _ (by simp[Tv,hj]))
  have aV:Hid (Cp 83 #[.string s1] t λe w'=>e=.returned (.string s2)/\Bl t w'):=by
   have h:=Fv s1 t z1;rw[show Uv s1.data.toList=Uv body by rw[C],<-hs2]at h;exact h
  have aU:Hid ((⟨(R0 T).toArray⟩:ByteArray)=s1++s2):=by
   show _=_;rw[HF.out,C,hs2];exact Me _ _
  clear q4 C hs2 HF;go_wp2_with fail;refine aV.out.mono ?_;rintro e bq ⟨rfl,aJ⟩;go_wp2_with fail;go_ret2;refine⟨X.trans (aJ.mono X.size),Or.inl ⟨F.out,?_⟩⟩;rw[aU.out];rfl
def bo (f:Nat->Bool) (n:Nat):List Value:=(List.range n).map λj=>.bool (f j)
theorem Ii (f:N_) (n:Nat):bo f (n+1)=bo f n++[.bool (f n)]:=by simp[bo,ZT]
theorem TI (f:N_) (n:Nat):(bo f n).length=n:=by simp[bo]
theorem ET (n:Int):bits .and .i64 n 1=n%2:=by
 have h1:(BitVec.ofInt 64 1).toNat=2 ^ 1-1:=by decide
 have a:(BitVec.ofInt 64 n &&& BitVec.ofInt 64 1).toNat=(n%((2 ^ 64:Nat):Int)).toNat%2 ^ 1:=by
  rw[BitVec.toNat_and,BitVec.toNat_ofInt,h1,Nat.and_two_pow_sub_one_eq_mod]
 show IntKind.i64.wrap ((BitVec.ofInt 64 n &&& BitVec.ofInt 64 1).toNat:Nat)=n%2;rw[a,IntKind.wrap_i64];omega
theorem Eq (x t:Nat):(bits .and .i64 ((x:Int)/2 ^ t) 1==1)=x.testBit t:=by
 have e:((x:Int)/2 ^ t)=((x/2 ^ t:Nat):Int):=by simp
 rw[e,ET,Nat.testBit_eq_decide_div_mod_eq];by_cases a:x/2 ^ t%2=1
 ·rw[decide_eq_true a];simp only[beq_iff_eq];omega
 rw[decide_eq_false a];simp only[beq_eq_false_iff_ne];omega
theorem Er (s:ByteArray) (w:World) (hs:s.size<=1000000):
  Cp 93 #[.string s] w λe w'=>∃v,e=.returned v/\X7 w.heap.size v (bo (N9 s.data.toList) (8*s.size)) w'/\Bl w w':=by
 have K:s.data.toList.length=s.size:=by simp
 obtain⟨i,E,p,q,r⟩:=Qh;go_enter Tryz.func93,Tryz.ntmps93;go_wp2
 go_loopw [3,4] (λv i w'=>∃k:Nat,k<=s.size/\i=I6 k/\X7 w.heap.size v (bo (N9 s.data.toList) (8*k)) w'/\Bl w w') (λ_ i _=>s.size-(intOf i).toNat)
 ·exact⟨0,by omega,rfl,X7.nil _ _,Zk _ _⟩
 obtain⟨k,J,rfl,x,y⟩:=hrel;by_cases F:k<s.size
 ·have A:(k:Int)<(s.size:Int):=by omega
  have I:=s[k].toNat_lt;have D:Hid (∀t,t<8->N9 s.data.toList (8*k+t)=s[k].toNat.testBit (7-t)):=λt B=>E5 s.data.toList k t (by omega) B
  go_wp2
  go_loopw [3,5] (λv i w'=>∃t:Nat,t<=8/\i=I6 (7-(t:Int))/\X7 w.heap.size v (bo (N9 s.data.toList) (8*k+t)) w'/\Bl w w') (λ_ i _=>((intOf i)+1).toNat)
  ·exact⟨0,by omega,rfl,x,y⟩
  obtain⟨t,B,rfl,d,a⟩:=hrel;by_cases o:t<8
  ·have H:(0:Int)<=7-(t:Int):=by omega
   obtain⟨b,c⟩:=nam (N9 s.data.toList (8*k+t));have L:(bits .and .i64 ((s[k].toNat:Int)/2 ^ (7-t)) 1==1)=b:=by rw[c,D.out t o];exact Eq _ _
   have C:=hyd c;clear c;have m:=d.alloc (.cells #[.bool b] 4);have n:=a.alloc a.size (.cells #[.bool b] 4);have l:∀j u,[Value.bool b][j]?=some u->(wr.alloc (.cells #[.bool b] 4)).cell? (a_ wr.heap.size j)=some u:=λj u G=>by
    rw[Zm];simpa using G
   have z:(bo (N9 s.data.toList) (8*k+t)).length=8*k+t:=TI _ _;go_wp2_with (first|(at_builtin;refine Tt (by rfl) _ _ 78 4 (by rfl) i (.bool false) 1 u_m E p q r rfl (by omega) w.heap.size u3 (bo (N9 s.data.toList) (8*k+t)) (by rfl) m wr.heap.size 1 [.bool b] (by rfl) rfl l (by simp[Value.oneCell']) (by rw[TI];omega) (by simp;have:=a.size;omega) (by omega) ?_;intro g cap w2 h f));rw[C.out,<-Ii,TI]at h;go_roundw
   ·exact⟨t+1,by omega,by go_num,by rw[<-ZN];exact h,n.grown f (ZJ a.size (by simp)) d.ge⟩
   simp[intOf];omega
  have⟨H,ht8⟩:¬(0:Int)<=7-(t:Int)/\t=8:=by omega
  subst ht8;go_wp2;go_roundw
  ·exact⟨k+1,by omega,by go_num,by rw[show 8*(k+1)=8*k+8 by omega];exact d,a⟩
  simp[intOf];omega
 have⟨hge,hkn⟩:¬(k:Int)<(s.size:Int)/\k=s.size:=by omega
 subst hkn;go_wp2;go_ret;exact⟨_,rfl,x,y⟩
def O0 (g:Nat) (f:Nat->Bool) (n:Nat) (w:World):Prop:=∀k,k<n->w.cell? ⟨g,k,none⟩=some (.bool (f k))/\w.frozen? ⟨g,k,none⟩=false
theorem O0.set (h:O0 g f n w) (j:Nat) (y:j<n) (b:Bool):O0 g (λk=>if k=j then b else f k) n (w.setCell (a_ g j) (.bool b)):=λk l=>by
 obtain⟨a,m⟩:=h k l;obtain⟨c,i⟩:=h j y;refine⟨?_,?_⟩
 ·by_cases e:k=j
  ·subst e;simp;go_simp
  simp only[if_neg e];rw[World.cell?_setCell_other _ _ _ _ (by intro d;cases d;exact e rfl)];exact a
 go_simp
theorem O0.congr (h:O0 g f n w) (e:∀k,k<n->f k=f' k):O0 g f' n w:=λk a=>by
 rw[<-e k a];exact h k a
theorem O0.below (h:O0 g f n w) (y:Bl w w'):O0 g f n w':=λk b=>by
 have a:=Ze w (a_ g k) (h k b).1;rw[y.cell (p:=(a_ g k)) a,y.frozen (p:=(a_ g k)) a];exact h k b
theorem X7.bls (h:X7 base v (bo f n) w) (y:0<n):∃g cap,v=sL g n cap/\base<=g/\O0 g f n w:=by
 rcases h with ⟨_,h⟩|⟨g,cap,rfl,h1,h2,h3,a,b⟩
 ·have:(bo f n).length=0:=by rw[h];rfl
  rw[TI]at this;omega
 refine⟨g,cap,by rw[TI],h1,λk c=>⟨a k _ ?_,(b k (by rw[TI]at h3;omega)).2⟩⟩;simp[bo,c]
def B4 (g:Nat) (f:Nat->Nat) (w:World):Prop:=∀k,k<4->w.cell? ⟨g,k,none⟩=some (.int .u8 (f k:Int))/\w.frozen? ⟨g,k,none⟩=false
theorem B4.set {f:Nat->Nat} (h:B4 g f w) (j:Nat) (y:j<4) (b:Nat):B4 g (λk=>if k=j then b else f k) (w.setCell (a_ g j) (.int .u8 b)):=λk l=>by
 obtain⟨a,m⟩:=h k l;obtain⟨c,i⟩:=h j y;refine⟨?_,?_⟩
 ·by_cases e:k=j
  ·subst e;simp;go_simp
  simp only[if_neg e];rw[World.cell?_setCell_other _ _ _ _ (by intro d;cases d;exact e rfl)];exact a
 go_simp
theorem O0.block (h:O0 g f n w) (y:w'.heap[g]?=w.heap[g]?):O0 g f n w':=λk b=>by
 rw[World.cell?_of_block (w:=w) (a:=(a_ g k)) y,World.frozen?_of_block (w:=w) (a:=(a_ g k)) y];exact h k b
def Ni (c k:Nat) (f:Nat->Nat):Prop:=∀q,q<4->∀b,(f q).testBit b=(decide (b<8)&&decide (8*q+7<k+b)&&c.testBit (24-8*q+b))
theorem Ni.lt {f:Nat->Nat} (h:Ni c k f) (q:Nat) (y:q<4):f q<256:=by
 have:f q<2 ^ 8:=Nat.lt_pow_two_of_testBit _ (λi a=>by rw[h q y i];simp;omega);simpa using this
theorem Ni.step0 {f:Nat->Nat} (h:Ni c k f) (z:k<32) (y:c.testBit (31-k)=false):Ni c (k+1) f:=λq d b=>by
 rw[h q d b];by_cases h1:b<8
 ·by_cases h2:8*q+7=k+b
  ·have a:24-8*q+b=31-k:=by omega
   rw[a,y];simp
  by_cases h3:8*q+7<k+b
  ·have:8*q+7<k+1+b:=by omega
   simp[h3,this]
  have:¬8*q+7<k+1+b:=by omega
  simp[h3,this]
 simp[h1]
theorem Ni.step1 {f:Nat->Nat} (h:Ni c k f) (z:k<32) (y:c.testBit (31-k)=true):Ni c (k+1) (λq=>if q=k/8 then f (k/8) ||| 2 ^ (7-k%8) else f q):=λq d b=>by
 by_cases a:q=k/8
 ·simp only[if_pos a];rw[<-a,Nat.testBit_or,h q d b,Nat.testBit_two_pow];by_cases h1:b<8
  ·by_cases h2:8*q+7=k+b
   ·have⟨e1,e2⟩:24-8*q+b=31-k/\7-k%8=b:=by omega
    have e:8*q+7<k+1+b:=by omega
    rw[e1,y];simp[h1,e2,e]
   have e2:¬7-k%8=b:=by omega
   by_cases h3:8*q+7<k+b
   ·have:8*q+7<k+1+b:=by omega
    simp[h3,this,e2]
   have:¬8*q+7<k+1+b:=by omega
   simp[h3,this,e2]
  have e2:¬7-k%8=b:=by omega
  simp[h1,e2]
 simp only[if_neg a];rw[h q d b];by_cases h1:b<8
 ·by_cases h3:8*q+7<k+b
  ·have:8*q+7<k+1+b:=by omega
   simp[h3,this]
  have:¬8*q+7<k+1+b:=by omega
  simp[h3,this]
 simp[h1]
theorem Ni.all {f:Nat->Nat} (h:Ni c 32 f) (q:Nat) (y:q<4):f q=c/2 ^ (24-8*q)%256:=by
 apply Nat.eq_of_testBit_eq;intro b;rw[h q y b,show(256:Nat)=2 ^ 8 from rfl,Nat.testBit_mod_two_pow,Nat.testBit_div_two_pow,ZP b];by_cases h1:b<8
 ·have:8*q+7<32+b:=by omega
  simp[h1,this]
 simp[h1]
theorem Jn (w:World):(Instr.makeSlice 99 (I6 4) (I6 4)).run Tryz.prog w=.ok (.slice (some (a_ w.heap.size 0)) 4 4) (w.alloc (.cells (madeCells #[.int .u8 0] 4) 5)):=by
 obtain⟨i,b,hz,hs,a⟩:=Sq;have h:=run_make (P:=Tryz.prog) w 99 5 i (.int .u8 0) u_e b hz .i64 .i64 4 4 (by omega) (by omega) (by rw[a];omega) (by omega);rw[hs]at h;exact h
theorem B4.blank (w:World) (t:TypeId):B4 w.heap.size (λ_=>0) (w.alloc (.cells (madeCells #[.int .u8 0] 4) t)):=λk a=>by
 refine⟨?_,?_⟩
 ·rw[Zm];simp[madeCells,a,Nat.mod_one]
 go_simp
theorem Jh (s:ByteArray) (w:World) (hs:s.size<=1000000):
  Cp 42 #[.string s] w λe w'=>e=.returned (.string ⟨(Uv s.data.toList).toArray⟩)/\Bl w w':=by
 have hl:s.data.toList.length=s.size:=by simp
 obtain⟨i,hi,al,am,an⟩:=Qh;have HB:=hyd (Er s w hs);have HM:Hid (∀t,N9 s.data.toList (8*s.size+t)=false):=λt=>by
  have h:decide (8*s.size+t<8*s.data.toList.length)=false:=decide_eq_false (by omega);unfold N9;rw[h];rfl
 have HL:=hyd hl;clear hl;generalize s.data.toList=L at *;go_enter Tryz.func42,Tryz.ntmps42;go_wp2_with fail;refine HB.out.mono ?_;rintro e w1 ⟨v,rfl,Q,hW⟩;clear HB;go_wp2
 go_loopw [3,4] (λv i w'=>∃k:Nat,k<=32/\i=I6 k/\X7 w.heap.size v (bo (N9 L) (8*s.size+k)) w'/\Bl w w') (λ_ i _=>32-(intOf i).toNat)
 ·exact⟨0,by omega,rfl,Q,hW⟩
 clear Q hW;obtain⟨k,hk,rfl,F,a⟩:=hrel;by_cases A:k<32
 ·have C:(k:Int)<32:=by omega
  have Z:=hyd (HM k);have ac:=F.alloc (.cells #[.bool false] 4);have z:=a.alloc a.size (.cells #[.bool false] 4);have V:∀j u,[Value.bool false][j]?=some u->(wr.alloc (.cells #[.bool false] 4)).cell? (a_ wr.heap.size j)=some u:=λj u hu=>by
   rw[Zm];simpa using hu
  have ao:(bo (N9 L) (8*s.size+k)).length=8*s.size+k:=TI _ _;go_wp2_with (first|(at_builtin;refine Tt (by rfl) _ _ 78 4 (by rfl) i (.bool false) 1 u_m hi al am an rfl (by omega) w.heap.size u3 (bo (N9 L) (8*s.size+k)) (by rfl) ac wr.heap.size 1 [.bool false] (by rfl) rfl V (by simp[Value.oneCell']) (by rw[TI];omega) (by simp;have:=a.size;omega) (by omega) ?_;intro g cap w2 S M));rw[<-Z.out,<-Ii,TI]at S;go_roundw
  ·exact⟨k+1,by omega,by go_num,by rw[<-ZN];exact S,z.grown M (ZJ a.size (by simp)) F.ge⟩
  simp[intOf];omega
 have⟨hge,hk32⟩:¬(k:Int)<32/\k=32:=by omega
 subst hk32;obtain⟨g,cap,rfl,K,n⟩:=F.bls (by omega);have l:g<wr.heap.size:=Ze wr (a_ g 0) (n 0 (by omega)).1;clear F;go_wp2
 go_loopw [5] (λi w'=>∃k:Nat,k<=32/\i=I6 k/\O0 g (λj=>N9 L j ^^ decide (j<k)) (8*s.size+32) w'/\Bl w w'/\g<w'.heap.size) (λi _=>32-(intOf i).toNat)
 ·exact⟨0,by omega,rfl,n.congr (λj _=>by simp),a,l⟩
 clear n l a;obtain⟨k,hk,rfl,n,a,l⟩:=hrel;by_cases A:k<32
 ·have⟨C,i1⟩:(k:Int)<32/\(k:Int)<((8*s.size+32:Nat):Int):=by omega
  have D:wr.cell? (a_ g k)=some (.bool (N9 L k)):=by simpa using (n k (by omega)).1
  have X:=(n k (by omega)).2;have d:=n.set k (by omega) (!(N9 L k));go_wp2;go_roundw
  ·refine⟨k+1,by omega,by go_num,d.congr (λj O=>?_),a.trans ((Lg _ g k _).mono K),by simpa[World.setCell]using l⟩;by_cases e:j=k
   ·subst e;rw[if_pos rfl];simp
   rw[if_neg e];by_cases e2:j<k
   ·simp[e2,show j<k+1 by omega]
   simp[e2,show ¬j<k+1 by omega]
  simp[intOf];omega
 have⟨hge,hk32⟩:¬(k:Int)<32/\k=32:=by omega
 subst hk32;have hD:O0 g (VX L 0) (8*s.size+32) wr:=n.congr (λj _=>(Gk L j).symm);have i0:((8*s.size+32:Nat):Int)-32=((8*s.size:Nat):Int):=by omega
 clear n;obtain⟨N,Y⟩:=nam (8*s.size);rw[<-Y]at hD i0;rw[<-Y];have HN:=hyd Y;have aq:N<=8000000:=by omega
 clear Y;go_wp2
 go_loopw [7] (λi w'=>∃k:Nat,k<=N/\i=I6 k/\O0 g (VX L k) (N+32) w'/\Bl w w'/\g<w'.heap.size) (λi _=>N-(intOf i).toNat)
 ·exact⟨0,by omega,rfl,hD,a,l⟩
 clear hD l a;obtain⟨k,hk,rfl,n,a,l⟩:=hrel;by_cases A:k<N
 ·have⟨C,i1⟩:(k:Int)<N/\(k:Int)<((N+32:Nat):Int):=by omega
  obtain⟨D,X⟩:=n k (by omega);cases hbk:VX L k k
  ·rw[hbk]at D;have d:O0 g (VX L (k+1)) (N+32) wr:=n.congr (λj _=>(JR L k j hbk).symm);clear hbk n;go_wp2;go_roundw
   ·exact⟨k+1,by omega,by go_num,d,a,l⟩
   simp[intOf];omega
  rw[hbk]at D;have J:Hid (VX L k k=true):=hbk;have d:O0 g (ST L k 0) (N+32) (wr.setCell (a_ g k) (.bool false)):=(n.set k (by omega) false).congr (λj _=>by
   by_cases e:j=k
   ·subst e;rw[if_pos rfl,Gi]
   rw[if_neg e,Gj L k j e])
  have z:Bl w (wr.setCell (a_ g k) (.bool false)):=a.trans ((Lg _ g k _).mono K);have I:g<(wr.setCell (a_ g k) (.bool false)).heap.size:=by simpa[World.setCell]using l
  clear hbk n l a;go_wp2
  go_loopw [8] (λi w'=>∃t:Nat,t<=32/\i=I6 t/\O0 g (ST L k t) (N+32) w'/\Bl w w'/\g<w'.heap.size) (λi _=>32-(intOf i).toNat)
  ·exact⟨0,by omega,rfl,d,z,I⟩
  clear d z I D X;obtain⟨t,ht,rfl,n,a,l⟩:=hrel;by_cases W:t<32
  ·have ap:(t:Int)<32:=by omega
   have H:(bits .and .i64 (79764919/2 ^ t) 1==1)=JT.testBit t:=Eq 79764919 t;cases hdv:JT.testBit t
   ·have qb:(bits .and .i64 (79764919/2 ^ t) 1==1)=false:=by rw[H,hdv]
    have d:O0 g (ST L k (t+1)) (N+32) wr:=n.congr (λj _=>by rw[Mh L k t j W J.out,hdv];simp);clear H hdv n;go_wp2;go_roundw
    ·exact⟨t+1,by omega,by go_num,d,a,l⟩
    simp[intOf];omega
   have qb:(bits .and .i64 (79764919/2 ^ t) 1==1)=true:=by rw[H,hdv]
   obtain⟨m,hm⟩:=nam (k+32-t);have im:(k:Int)+32-(t:Int)=(m:Int):=by omega
   have au:(m:Int)<((N+32:Nat):Int):=by omega
   obtain⟨D,X⟩:=n m (by omega);have d:O0 g (ST L k (t+1)) (N+32) (wr.setCell (a_ g m) (.bool (!ST L k t m))):=(n.set m (by omega) (!ST L k t m)).congr (λj _=>by
    rw[Mh L k t j W J.out];by_cases e:j=m
    ·subst e;rw[if_pos rfl,if_pos ⟨hm,hdv⟩]
    rw[if_neg e,if_neg (λh=>e (by rw[h.1,hm]))])
   clear H hdv n hm;generalize ST L k t m=bb at *;go_wp2;go_roundw
   ·exact⟨t+1,by omega,by go_num,d,a.trans ((Lg _ g m _).mono K),by simpa[World.setCell]using l⟩
   simp[intOf];omega
  have⟨hge,ht32⟩:¬(t:Int)<32/\t=32:=by omega
  subst ht32;have d:O0 g (VX L (k+1)) (N+32) wr:=n.congr (λj _=>EA L k j J);clear n;go_wp2;go_roundw
  ·exact⟨k+1,by omega,by go_num,d,a,l⟩
  simp[intOf];omega
 have⟨hge,hkN⟩:¬(k:Int)<N/\k=N:=by omega
 subst hkN;have HC:Hid (∀t,t<32->VX L k (k+t)=!(Lk L).testBit (31-t)):=λt ht=>by
  have:=EB L t ht;rw[HL.out,<-HN.out]at this;exact this
 have aj:=Jn wr;have h4:=B4.blank wr 5;have d:=n.below (JL wr (.cells (madeCells #[.int .u8 0] 4) 5));have z:=a.alloc a.size (.cells (madeCells #[.int .u8 0] 4) 5);have R:=a.size;clear n a;obtain⟨G,Q⟩:=nam wr.heap.size;rw[<-Q]at aj h4 R l;generalize af:wr.alloc (.cells (madeCells #[.int .u8 0] 4) 5)=w4 at *;clear af Q;go_wp2
 go_loopw [10] (λi w'=>∃(o:Nat) (f:Nat->Nat),o<=32/\i=I6 o/\Ni (Lk L) o f/\B4 G f w'/\O0 g (VX L k) (k+32) w'/\Bl w w') (λi _=>32-(intOf i).toNat)
 ·exact⟨0,λ_=>0,by omega,rfl,λq hq b=>by simp;omega,h4,d,z⟩
 clear h4 d z;obtain⟨o,f,ar,rfl,T,E,n,a⟩:=hrel;have x:=hyd T;clear T;by_cases A:o<32
 ·have⟨C,i1⟩:(o:Int)<32/\(k:Int)+(o:Int)<((k+32:Nat):Int):=by omega
  obtain⟨D,X⟩:=n (k+o) (by omega);rw[HC.out o A]at D;cases hbit:(Lk L).testBit (31-o)
  ·rw[hbit]at D;have B:=hyd (x.out.step0 A hbit);clear hbit;go_wp2;go_roundw
   ·exact⟨o+1,f,by omega,by go_num,B,E,n,a⟩
   simp[intOf];omega
  rw[hbit]at D;have B:=hyd (x.out.step1 A hbit);have U:=x.out.lt (o/8) (by omega);obtain⟨q,hq⟩:=nam (o/8);obtain⟨r,hr⟩:=nam (o%8);rw[<-hq]at U B;rw[<-hr]at B;have iq:(o:Int)/8=(q:Int):=by omega
  have⟨ir,iq4⟩:(o:Int)%8=(r:Int)/\(q:Int)<4:=by omega
  obtain⟨d3,d4⟩:=E q (by omega);have aa:=E.set q (by omega) (f q ||| 2 ^ (7-r));have hp:2 ^ (7-r)<256:=by
   have:2 ^ (7-r)<=2 ^ 7:=Nat.pow_le_pow_right (by omega) (by omega);omega
  have qo:bits .or .u8 (f q:Int) (2 ^ (7-r)%256)=((f q ||| 2 ^ (7-r):Nat):Int):=by
   have e:((2:Int) ^ (7-r)%256)=((2 ^ (7-r):Nat):Int):=by
    have c:((2:Int) ^ (7-r))=((2 ^ (7-r):Nat):Int):=by simp
    rw[c];have ak:=hp;generalize (2 ^ (7-r):Nat)=P at ak ⊢;omega
   rw[e,u8_or_nat _ _ U hp]
  clear hbit hq hr hp;generalize f q ||| 2 ^ (7-r)=y at *;have ab:O0 g (VX L k) (k+32) (wr.setCell (a_ G q) (.int .u8 (y:Int))):=n.block (Zq wr (a_ G q) _ g (by simp;omega));have ag:Bl w (wr.setCell (a_ G q) (.int .u8 (y:Int))):=a.setCell (p:=(a_ G q)) R _;go_wp2
  go_region
  go_wp2;go_roundw
  ·exact⟨o+1,_,by omega,by go_num,B,λj O=>aa j O,λj O=>ab j O,ag.drew⟩
  simp[intOf];omega
 have⟨hge,hk32⟩:¬(o:Int)<32/\o=32:=by omega
 subst hk32;have ah:(convert 99 9 (sL G 4 4)).run Tryz.prog wr=.ok (.string ⟨(Uv L).toArray⟩) wr:=by
  have ae:(Uv L).length=4:=rfl;have h0:=x.out.all 0 (by omega);have h1:=x.out.all 1 (by omega);have h2:=x.out.all 2 (by omega);have h3:=x.out.all 3 (by omega);have:=run_convert_bytes_back (P:=Tryz.prog) wr 99 9 5 (a_ G 0) 4 (Uv L) u_e u_g u_i (λj O=>by
   have ai:=O;rw[Addr.add_lit,Zn,(E j ai).1];rcases j with _|_|_|_|j
   ·rw[h0];simp[Uv,Yq]
   ·rw[h1];simp[Uv,Yq]
   ·rw[h2];simp[Uv,Yq]
   ·rw[h3];simp[Uv,Yq]
   omega)
  rw[ae]at this;exact this
 go_wp2;go_ret;exact⟨rfl,a⟩
def Vm (base:Nat) (v:Value) (l:List UInt8) (w:World):Prop:=w.ownsRow base 5 1 v l.length (Tv l)
theorem Vm.below {l:List UInt8} (h:Vm base v l w) (y:Bl w w'):Vm base v l w':=JU h y
theorem Vm.ge {l:List UInt8} (h:Vm base v l w):∀k,v.ownBlock=some k->base<=k:=λk a=>(h.lt k a).1
theorem WB (hgd:o.guard=none) (s x:Operand)
  (ho:o.op=.call { callee:=.builtin .append,args:=#[s,x],argTypes:=#[99,99] }) (base:Nat)
  (v:Value) (l:List UInt8) (hs:a.eval s=v) (hown:Vm base v l w) (hn:l.length<=1000000)
  (B:Nat) (y:UInt8) (hx:a.eval x=sL B 1 1) (hnews:w.cell? (a_ B 0)=some (.int .u8 (y.toNat:Int))) (hbase:base<=w.heap.size)
  (h:∀g cap w',Vm base (sL g (l.length+1) cap) (l++[y]) w'->w.grownBy w' v.ownBlock->wpList Tryz.prog ops Q rest (a.put o.dst (sL g (l.length+1) cap)) w'):wpList Tryz.prog ops Q (o::rest) a w:=by
 obtain⟨i,k,c,d,f⟩:=Sq;refine wpList_append_lies w hgd s x 99 ho base 5 i (.int .u8 0) 1 1 u_e k c d f rfl (by omega) v l.length (Tv l) hs hown (a_ B 0) 1 1 [.int .u8 (y.toNat:Int)] hx rfl ?_ (by simp[Value.oneCell']) (by omega) (by unfold maxLen;omega) (by omega) hbase w.heap.size rfl ?_
 ·intro j u b;rcases j with _|j
  ·simp at b;subst b;simpa[Addr.add_mid]using hnews
  simp at b
 intro g cap w' h1 h2 h3 m;refine h g cap w' ?_ h2;have e:Tv l++[.int .u8 (y.toNat:Int)]=Tv (l++[y]):=by simp[Tv]
 rw[e]at h1;unfold Vm;rw[Zl];exact h1
theorem Hh {K:Act->World->Prop}{E:Prop} (hgd:o.guard=none) (s x:Operand)
  (ho:o.op=.call { callee:=.builtin .append,args:=#[s,x],argTypes:=#[99,99] }) (base:Nat)
  (v:Value) (l:List UInt8) (hs:a.eval s=v) (hown:Vm base v l w) (hn:l.length<=1000000)
  (B:Nat) (y z:UInt8) (hx:a.eval x=sL B 2 2) (hn0:w.cell? (a_ B 0)=some (.int .u8 (y.toNat:Int))) (hn1:w.cell? (a_ B 1)=some (.int .u8 (z.toNat:Int))) (hbase:base<=w.heap.size)
  (h:∀g cap w',Vm base (sL g (l.length+2) cap) (l++[y,z]) w'->w.grownBy w' v.ownBlock->K (a.put o.dst (sL g (l.length+2) cap)) w'):
  if Region.wanted o (yielded ops a.tmps)=true then Oper.wp Tryz.prog o a w K Q else E:=by
 obtain⟨i,k,c,d,f⟩:=Sq;refine step_append_lies w hgd s x 99 ho base 5 i (.int .u8 0) 1 1 u_e k c d f rfl (by omega) v l.length (Tv l) hs hown (a_ B 0) 2 2 [.int .u8 (y.toNat:Int),.int .u8 (z.toNat:Int)] hx rfl ?_ (by simp[Value.oneCell']) (by omega) (by unfold maxLen;omega) (by omega) hbase w.heap.size rfl ?_
 ·intro j u b;rcases j with _|_|j
  ·simp at b;subst b;simpa[Addr.add_mid]using hn0
  ·simp at b;subst b;simpa[Addr.add_mid]using hn1
  simp at b
 intro g cap w' h1 h2 h3 m;refine h g cap w' ?_ h2;have e:Tv l++[.int .u8 (y.toNat:Int),.int .u8 (z.toNat:Int)]=Tv (l++[y,z]):=by simp[Tv]
 rw[e]at h1;unfold Vm;rw[Zl];exact h1
theorem GH (w:World) (x:Int):(w.alloc (.cells #[.int .u8 (x%256)] 5)).cell? (a_ w.heap.size 0)=some (.int .u8 ((Y3 x).toNat:Int)):=by
 rw[Zm,Yq];rfl
theorem KZ (hgd:o.guard=none) (s x:Operand)
  (ho:o.op=.call { callee:=.builtin .append,args:=#[s,x],argTypes:=#[99,99] }) (base:Nat)
  (g:Nat) (l:List UInt8) (hs:a.eval s=sL g l.length l.length) (hG:X7 base (sL g l.length l.length) (Tv l) w) (hn:l.length<=1000)
  (B:Nat) (l2:List UInt8) (hl2:l2.length=6) (hx:a.eval x=sL B 6 6) (hnews:∀j u,(Tv l2)[j]?=some u->w.cell? (a_ B j)=some u)
  (h:∀v w',Vm w.heap.size v (l++l2) w'->w.grownBy w' none->wpList Tryz.prog ops Q rest (a.put o.dst v) w'):wpList Tryz.prog ops Q (o::rest) a w:=by
 obtain⟨i,q,d,e,f⟩:=Sq;refine wpList_append_grows w hgd s x 99 ho 5 i (.int .u8 0) 1 1 u_e q d e f rfl (by omega) (some (a_ g 0)) l.length l.length (Tv l) hs (λh=>by cases h) (by rw[TJ];omega) ?_ (a_ B 0) 6 6 (Tv l2) hx (by rw[TJ];omega) ?_ ?_ (by omega) (by unfold maxLen;omega) (by omega) ?_
 ·intro b n j u c;cases n;rcases hG with ⟨h,_⟩|⟨k,cap,h0,_,_,_,m,_⟩
  ·cases h
  have p:g=k:=by simpa[Value.ownBlock]using congrArg Value.ownBlock h0
  subst p;rw[Addr.add_lit,Zn];exact m j u c
 ·intro j u c;rw[Addr.add_lit,Zn];exact hnews j u c
 ·intro u c;simp only[Tv,List.mem_map]at c;obtain⟨y,_,rfl⟩:=c;rfl
 intro v' w' h1 h2;refine h v' w' ?_ h2;rw[<-Nz]at h1;unfold Vm;rw[Zl,hl2];exact h1
theorem BM (w:World) (x1 x2 x3 y z H:Int):∀j u,(Tv [Y3 x1,Y3 x2,Y3 x3,Y3 y,Y3 z,Y3 H])[j]?=some u ->
  (w.alloc (.cells #[.int .u8 (x1%256),.int .u8 (x2%256),.int .u8 (x3%256),.int .u8 (y%256),.int .u8 (z%256),.int .u8 (H%256)] 5)).cell? (a_ w.heap.size j)=some u:=by
 intro j u a;rw[Zm];rcases j with _|_|_|_|_|_|j<;>simp[Tv,Yq]at a ⊢<;>exact a
theorem M2 (T:Tb) (A:Pc) (w:World) (hs:IF T) (hI:Sh T A w):Calls Tryz.prog 63 #[.agg (A.cells T)] w (H9 T w):=by
 have ab:=Yg w (.cells (A.cells T) 83);have O:=UP.boxed T A w 83;have al:=hI.below ab;have m1:T.ncl<=maxLen:=by have:=hs.s1;unfold maxLen;omega
 have HS:Hid (Calls Tryz.prog 123 #[.agg (A.cells T)] (w.alloc (.cells (A.cells T) 83)) (YD (QE T) (w.alloc (.cells (A.cells T) 83)))):=LS T A _ hs al;unfold Pc.cells at *;go_enter Tryz.func63,Tryz.ntmps63;go_wp2_with fail;refine HS.out.mono ?_;rintro e w1 ⟨bb,rfl,ae,Q⟩;have am:Below w.heap.size w w1:=ab.trans (Q.mono ab.size);have ag:=O.below Q;have ac:=al.below Q;have aZ:w.heap.size<w1.heap.size:=ZH O.lt Q.size;clear HS ab O al hI Q;generalize U:w.heap.size=bx at *;cases bb
 ·have HN:Hid (¬QE T):=λh=>by have:=ae.2 h;cases this
  clear ae;go_wp2;go_ret2;exact⟨by rw[U];exact am,Or.inr ⟨HN.out,rfl⟩⟩
 have Y:QE T:=ae.1 rfl;clear ae;have aa:Hid (QE T):=Y;have aU:=Y.hd.2.2.1;have a5:=SS T.cl T.ncl;have nr:=Y.hd.1;have nl:=Y.hd.2.1;have n5:=Y.e5;have n1:T.ncl=256:=by
  rcases Nat.decEq T.ncl 256 with h|h
  ·simp[Vg,h]at aU
  exact h
 have N3:Hid (T.nbs=T.nlb):=Y.e3;have N4:Hid (T.ndf=T.nlb):=Y.e4;have N6:Hid (T.nnx=T.nck):=Y.e6;have N1:Hid (T.ncl=256):=n1;have a2:T.nbs<=96:=by have:=Y.e3;omega
 have Z:Hid (∀w',Below w1.heap.size w1 w'->Sh T A w'):=λw' hW=>ac.below hW
 have s:Hid (∀w',Below w1.heap.size w1 w'->UP bx T A w'):=λw' hW=>ag.below hW
 have ap:Hid (IL A.a3 T.bs T.nbs w1):=ac.l3;have F2:Hid (Calls Tryz.prog 120 #[.slice A.a1 T.ncl A.c1] w1 λe w'=>e=.returned (I6 (Vg T.cl T.ncl))/\w'=w1):=WZ _ _ _ _ _ m1 ac.l1;have aI:Hid (Below bx w w1):=am;have aK:Hid (w.heap.size=bx):=U;clear Y n1 ac am U;obtain⟨d0,d1,d2,d3,d4,d5,d6⟩:=ag;go_wp2
 go_loop [6,7] (λx i=>∃k:Nat,k<=T.nbs/\i=I6 k/\x=I6 (YB T.bs k)) (λ_ i=>T.nbs-(intOf i).toNat)
 ·exact⟨0,by omega,rfl,rfl⟩
 obtain⟨k,hk,rfl,rfl⟩:=hrel;by_cases o:k<T.nbs
 ·have F:(k:Int)<(T.nbs:Int):=by omega
  obtain⟨b3,o3,h3,c3⟩:=ap.out k o;rw[h3]at d3;have av:Hid (YB T.bs (k+1)=if 255<T.bs k then 2 else YB T.bs k):=rfl;by_cases af:255<T.bs k
  ·have aj:Hid (YB T.bs (k+1)=2):=by show _=_;rw[av.out,if_pos af]
   go_wp2
   go_round
   ·exact⟨k+1,by omega,by go_num,by rw[aj.out]⟩
   simp[intOf];omega
  have aj:Hid (YB T.bs (k+1)=YB T.bs k):=by show _=_;rw[av.out,if_neg af]
  go_wp2
  go_round
  ·exact⟨k+1,by omega,by go_num,by rw[aj.out]⟩
  simp[intOf];omega
 have⟨V,ao⟩:¬(k:Int)<(T.nbs:Int)/\k=T.nbs:=by omega
 subst ao;have aC:=Ro T.bs T.nbs;have aX:Hid (YB T.bs T.nbs=1\/YB T.bs T.nbs=2):=aC;have a4:1<=YB T.bs T.nbs/\YB T.bs T.nbs<=2:=by omega
 clear aC;go_wp2_with fail;refine F2.out.mono ?_;rintro e w1 ⟨rfl,rfl⟩;clear F2 ap;have kc:(convert 99 99 (.slice (some (a_ w1.heap.size 0)) 4 4)).run Tryz.prog (w1.alloc (.cells #[.int .u8 77,.int .u8 85,.int .u8 78,.int .u8 49] 5))=.ok (.slice (some (a_ w1.heap.size 0)) 4 4) (w1.alloc (.cells #[.int .u8 77,.int .u8 85,.int .u8 78,.int .u8 49] 5 (4,5))):=
  Lib.run_convert_bytes_const (P:=Tryz.prog) w1 99 5 #[.int .u8 77,.int .u8 85,.int .u8 78,.int .u8 49] 4 4 u_e u_g
 have ak:=X7.magic w1.heap.size w1 (Zg _);have d:Below w1.heap.size w1 (w1.alloc (.cells #[.int .u8 77,.int .u8 85,.int .u8 78,.int .u8 49] 5 (4,5))):=Yg _ _;obtain⟨W,R⟩:∃W,W=w1.alloc (.cells #[.int .u8 77,.int .u8 85,.int .u8 78,.int .u8 49] 5 (4,5)):=⟨_,rfl⟩;rw[<-R]at kc ak d;have ah:W.heap.size=w1.heap.size+1:=by rw[R];simp
 clear R d0 d1 d2 d3 d4 d5 d6;obtain⟨d0,d1,d2,d3,d4,d5,d6⟩:=s.out W d;have HH:Hid (UI T=(((([77,85,78,49]++[Y3 T.rules,Y3 ((Vg T.cl T.ncl:Int)-1),Y3 T.nlb,Y3 ((T.nck:Int)/256),Y3 T.nck,Y3 (YB T.bs T.nbs)]++XJ T.cl T.ncl 0)++XJ T.lb T.nlb 1)++X4 T.bs T.nbs (YB T.bs T.nbs))++XJ T.df T.ndf 1)++XI T.ck T.nx T.nck):=rfl;generalize Vg T.cl T.ncl=c at *;generalize YB T.bs T.nbs=wd at *;have n6:=BM W T.rules ((c:Int)-1) T.nlb ((T.nck:Int)/256) T.nck wd;rw[show T.rules%256=T.rules by omega,show((c:Int)-1)%256=(c:Int)-1 by omega,show(T.nlb:Int)%256=(T.nlb:Int) by omega,show(T.nck:Int)/256%256=(T.nck:Int)/256 by omega,show wd%256=wd by omega]at n6;have ax:=ak.alloc (.cells #[.int .u8 T.rules,.int .u8 ((c:Int)-1),.int .u8 (T.nlb:Int),.int .u8 ((T.nck:Int)/256),.int .u8 ((T.nck:Int)%256),.int .u8 wd] 5);have C:=d.alloc d.size (.cells #[.int .u8 T.rules,.int .u8 ((c:Int)-1),.int .u8 (T.nlb:Int),.int .u8 ((T.nck:Int)/256),.int .u8 ((T.nck:Int)%256),.int .u8 wd] 5);have aJ:Hid (W.heap.size=w1.heap.size+1):=ah;clear ah d;go_wp2_with (first|(at_builtin;refine KZ (by rfl) _ _ (by rfl) w1.heap.size w1.heap.size [77,85,78,49] (by rfl) ax (by simp) W.heap.size [Y3 T.rules,Y3 ((c:Int)-1),Y3 T.nlb,Y3 ((T.nck:Int)/256),Y3 T.nck,Y3 wd] rfl (by rfl) n6 ?_;intro v2 w2 n D));have aw:Below w1.heap.size w1 w2:=C.grown D C.size (λk hk=>by cases hk);have l:w1.heap.size<=(W.alloc (.cells #[.int .u8 T.rules,.int .u8 ((c:Int)-1),.int .u8 (T.nlb:Int),.int .u8 ((T.nck:Int)/256),.int .u8 ((T.nck:Int)%256),.int .u8 wd] 5)).heap.size:=C.size;have E:=D.size;clear D C ax n6 ak kc d0 d1 d2 d3 d4 d5 d6 aJ;generalize (W.alloc (.cells #[.int .u8 T.rules,.int .u8 ((c:Int)-1),.int .u8 (T.nlb:Int),.int .u8 ((T.nck:Int)/256),.int .u8 ((T.nck:Int)%256),.int .u8 wd] 5)).heap.size=base at *;generalize ay:([77,85,78,49]++[Y3 T.rules,Y3 ((c:Int)-1),Y3 T.nlb,Y3 ((T.nck:Int)/256),Y3 T.nck,Y3 wd]:List UInt8)=HD at *;have aB:T.ndf<=96:=by have:=N4.out;omega
 have aB:T.ndf<=96:=by have:=N4.out;omega
 have aB:T.ndf<=96:=by have:=N4.out;omega
 have ai:Hid (HD.length<=10):=by show _<=_;rw[<-ay];exact Zg 10
 have aq:Hid (∀i,i<T.nlb->-1<=T.lb i/\T.lb i<=1000000):=λi hi=>by have h1:=aa.out.hd.2.2.2 i hi;omega
 have ar:Hid (∀i,i<T.ndf->-1<=T.df i/\T.df i<=1000000):=λi hi=>by have h0:=N4.out;have h1:=aa.out.b4 i (by omega);omega
 have au:Hid (∀i,i<T.nck->(-1<=T.ck i/\T.ck i<=1000000)/\(-1<=T.nx i/\T.nx i<=1000000)):=λi hi=>by
  rcases aa.out.cs i hi with h|h
  ·omega
  omega
 clear ay;have b:=aw;have f:=E;clear aw E;go_wp2
 go_loopw [9,10] (λv i w'=>∃k:Nat,k<=256/\i=I6 k/\Vm base v (HD++XJ T.cl k 0) w'/\Below w1.heap.size w1 w'/\base<=w'.heap.size) (λ_ i _=>256-(intOf i).toNat)
 ·exact⟨0,by omega,rfl,by simpa[XJ]using n,b,f⟩
 clear n b f;obtain⟨k,hk,rfl,r,b,f⟩:=hrel;by_cases o:k<256
 ·have F:(k:Int)<(256):=by omega
  have ao:(k:Int)<(T.ncl:Int):=by have:=N1.out;omega
  obtain⟨bL,oL,I,cL⟩:=(Z.out wr b).l1 k (by have:=N1.out;omega);have dL:=(s.out wr b).c1;rw[I]at dL;clear I;have z:Hid (HD++XJ T.cl (k+1) 0=(HD++XJ T.cl k 0)++[Y3 (T.cl k)]):=by show _=_;rw[Sx,Int.add_zero,Zs]
  have t:(HD++XJ T.cl k 0).length<=1000000:=by have:=ai.out;rw[Zl,Xg];omega
  generalize HD++XJ T.cl k 0=L at *;generalize T.cl k=x at *;have n:=r.below (Yg wr (.cells #[.int .u8 (x%256)] 5));have d:=b.alloc b.size (.cells #[.int .u8 (x%256)] 5);have B:=GH wr x;go_wp2_with (first|(at_builtin;refine WB (by rfl) _ _ (by rfl) base u9 L (by rfl) n t wr.heap.size (Y3 x) (by rfl) B (by simp;omega) ?_;intro g cap w2 u a));go_roundw
  ·exact⟨k+1,by omega,by go_num,by rw[z.out];exact u,d.grown a (ZJ b.size (by simp)) (λq G=>ZJ l (r.ge q G)),ZJ f (ZJ (by simp) a.size)⟩
  simp[intOf];omega
 have V:¬(k:Int)<(256):=by omega
 have p:k=T.ncl:=by have:=N1.out;omega
 have a0:k=256:=by omega
 have J:Hid ((HD++XJ T.cl T.ncl 0).length<=266):=by show _<=_;have:=ai.out;have:=N1.out;rw[Zl,Xg];omega
 have m:Vm base u9 (HD++XJ T.cl T.ncl 0) wr:=by rw[<-p];exact r
 clear p o r;generalize HD++XJ T.cl T.ncl 0=HD2 at *;go_wp2
 go_loopw [9,11] (λv i w'=>∃k:Nat,k<=T.nlb/\i=I6 k/\Vm base v (HD2++XJ T.lb k 1) w'/\Below w1.heap.size w1 w'/\base<=w'.heap.size) (λ_ i _=>T.nlb-(intOf i).toNat)
 ·exact⟨0,by omega,rfl,by simpa[XJ]using m,b,f⟩
 clear m b f;obtain⟨k,hk,rfl,r,b,f⟩:=hrel;by_cases o:k<T.nlb
 ·have F:(k:Int)<(T.nlb:Int):=by omega
  obtain⟨bL,oL,I,cL⟩:=(Z.out wr b).l2 k (by omega);have dL:=(s.out wr b).c2;rw[I]at dL;clear I;have z:Hid (HD2++XJ T.lb (k+1) 1=(HD2++XJ T.lb k 1)++[Y3 (T.lb k+1)]):=by show _=_;rw[Sx,Zs]
  have aF:=aq.out k (by omega);have t:(HD2++XJ T.lb k 1).length<=1000000:=by have:=J.out;rw[Zl,Xg];omega
  generalize HD2++XJ T.lb k 1=L at *;generalize T.lb k=x at *;have n:=r.below (Yg wr (.cells #[.int .u8 ((x+1)%256)] 5));have d:=b.alloc b.size (.cells #[.int .u8 ((x+1)%256)] 5);have B:=GH wr (x+1);go_wp2_with (first|(at_builtin;refine WB (by rfl) _ _ (by rfl) base u9 L (by rfl) n t wr.heap.size (Y3 (x+1)) (by rfl) B (by simp;omega) ?_;intro g cap w2 u a));go_roundw
  ·exact⟨k+1,by omega,by go_num,by rw[z.out];exact u,d.grown a (ZJ b.size (by simp)) (λq G=>ZJ l (r.ge q G)),ZJ f (ZJ (by simp) a.size)⟩
  simp[intOf];omega
 have⟨V,p⟩:¬(k:Int)<(T.nlb:Int)/\k=T.nlb:=by omega
 have dT:=(s.out wr b).c2;have K:Hid ((HD2++XJ T.lb T.nlb 1).length<=362):=by show _<=_;have:=J.out;rw[Zl,Xg];omega
 have m:Vm base u9 (HD2++XJ T.lb T.nlb 1) wr:=by rw[<-p];exact r
 clear p o r;generalize HD2++XJ T.lb T.nlb 1=HD3 at *;go_wp2;clear dT
 go_loopw [9,12] (λv i w'=>∃k:Nat,k<=T.nbs/\i=I6 k/\Vm base v (HD3++X4 T.bs k wd) w'/\Below w1.heap.size w1 w'/\base<=w'.heap.size) (λ_ i _=>T.nbs-(intOf i).toNat)
 ·exact⟨0,by omega,rfl,by simpa[X4]using m,b,f⟩
 clear m b f;obtain⟨k,hk,rfl,r,b,f⟩:=hrel;by_cases o:k<T.nbs
 ·have F:(k:Int)<(T.nbs:Int):=by omega
  obtain⟨bL,oL,I,cL⟩:=(Z.out wr b).l3 k o;have dL:=(s.out wr b).c3;have HC:Hid (∀w',Below w1.heap.size w1 w'->w'.cell? (a_ bx 3)=some (.slice (some (a_ bL oL)) T.nbs A.c3)/\w'.cell? (a_ bL (oL+k))=some (I6 (T.bs k))):=λw' h'=>by
   obtain⟨b',o',h1,h2⟩:=(Z.out w' h').l3 k o;rw[I]at h1;cases h1;exact⟨by rw[<-I];exact(s.out w' h').c3,h2⟩
  rw[I]at dL;clear I;have t:(HD3++X4 T.bs k wd).length<=900000:=by have:=K.out;have:=UX T.bs wd k;rw[Zl];omega
  by_cases h2:wd=2
  ·have z:Hid (HD3++X4 T.bs (k+1) wd=((HD3++X4 T.bs k wd)++[Y3 (T.bs k/256)])++[Y3 (T.bs k)]):=by show _=_;rw[VE,if_pos h2];simp
   generalize HD3++X4 T.bs k wd=L at *;generalize T.bs k=x at *;have n:=r.below (Yg wr (.cells #[.int .u8 (x/256%256)] 5));have d:=b.alloc b.size (.cells #[.int .u8 (x/256%256)] 5);have B:=GH wr (x/256);have q2:(wd==2)=true:=by simpa using h2
   clear h2;go_wp2_with (first|(at_builtin;refine WB (by rfl) _ _ (by rfl) base u9 L (by rfl) n (by omega) wr.heap.size (Y3 (x/256)) (by rfl) B (by simp;omega) ?_;intro g cap w2 u a;have C:=d.grown a (ZJ b.size (by simp)) (λq G=>ZJ l (r.ge q G));have aA:=ZJ f (ZJ (by simp) a.size);obtain⟨e1,e2⟩:=HC.out w2 C;clear a d n B r b f dL cL;generalize aP:L++[Y3 (x/256)]=L2 at *;have aO:L2.length=L.length+1:=by rw[<-aP];simp;done)|(at_builtin;refine WB (by rfl) _ _ (by rfl) base _ L2 (by rfl) (u.below (Yg w2 (.cells #[.int .u8 (x%256)] 5))) (by omega) w2.heap.size (Y3 x) (by rfl) (GH w2 x) (by simp;omega) ?_;intro g' aV w3 m H));go_roundw
   ·exact⟨k+1,by omega,by go_num,by rw[z.out,<-aO];exact m,C.alloc C.size (.cells #[.int .u8 (x%256)] 5) |>.grown H (ZJ C.size (by simp)) (λq G=>ZJ l (u.ge q G)),ZJ aA (ZJ (by simp) H.size)⟩
   simp[intOf];omega
  have z:Hid (HD3++X4 T.bs (k+1) wd=(HD3++X4 T.bs k wd)++[Y3 (T.bs k)]):=by show _=_;rw[VE,if_neg h2];simp
  generalize HD3++X4 T.bs k wd=L at *;generalize T.bs k=x at *;have n:=r.below (Yg wr (.cells #[.int .u8 (x%256)] 5));have d:=b.alloc b.size (.cells #[.int .u8 (x%256)] 5);have B:=GH wr x;have q2:(wd==2)=false:=by simpa using h2
  clear h2;go_wp2_with (first|(at_builtin;refine WB (by rfl) _ _ (by rfl) base u9 L (by rfl) n (by omega) wr.heap.size (Y3 x) (by rfl) B (by simp;omega) ?_;intro g cap w2 u a));go_roundw
  ·exact⟨k+1,by omega,by go_num,by rw[z.out];exact u,d.grown a (ZJ b.size (by simp)) (λq G=>ZJ l (r.ge q G)),ZJ f (ZJ (by simp) a.size)⟩
  simp[intOf];omega
 have⟨V,p⟩:¬(k:Int)<(T.nbs:Int)/\k=T.nbs:=by omega
 have dT:=(s.out wr b).c3;have M:Hid ((HD3++X4 T.bs T.nbs wd).length<=600):=by show _<=_;have:=K.out;have:=UX T.bs wd T.nbs;rw[Zl];omega
 have m:Vm base u9 (HD3++X4 T.bs T.nbs wd) wr:=by rw[<-p];exact r
 clear p o r;generalize HD3++X4 T.bs T.nbs wd=HD4 at *;go_wp2;clear dT
 go_loopw [9,13] (λv i w'=>∃k:Nat,k<=T.ndf/\i=I6 k/\Vm base v (HD4++XJ T.df k 1) w'/\Below w1.heap.size w1 w'/\base<=w'.heap.size) (λ_ i _=>T.ndf-(intOf i).toNat)
 ·exact⟨0,by omega,rfl,by simpa[XJ]using m,b,f⟩
 clear m b f;obtain⟨k,hk,rfl,r,b,f⟩:=hrel;by_cases o:k<T.ndf
 ·have F:(k:Int)<(T.ndf:Int):=by omega
  have ao:(k:Int)<(T.ndf:Int):=by have:=N4.out;omega
  obtain⟨bL,oL,I,cL⟩:=(Z.out wr b).l4 k (by have:=N4.out;omega);have dL:=(s.out wr b).c4;rw[I]at dL;clear I;have z:Hid (HD4++XJ T.df (k+1) 1=(HD4++XJ T.df k 1)++[Y3 (T.df k+1)]):=by show _=_;rw[Sx,Zs]
  have aF:=ar.out k (by omega);have t:(HD4++XJ T.df k 1).length<=1000000:=by have:=M.out;rw[Zl,Xg];omega
  generalize HD4++XJ T.df k 1=L at *;generalize T.df k=x at *;have n:=r.below (Yg wr (.cells #[.int .u8 ((x+1)%256)] 5));have d:=b.alloc b.size (.cells #[.int .u8 ((x+1)%256)] 5);have B:=GH wr (x+1);go_wp2_with (first|(at_builtin;refine WB (by rfl) _ _ (by rfl) base u9 L (by rfl) n t wr.heap.size (Y3 (x+1)) (by rfl) B (by simp;omega) ?_;intro g cap w2 u a));go_roundw
  ·exact⟨k+1,by omega,by go_num,by rw[z.out];exact u,d.grown a (ZJ b.size (by simp)) (λq G=>ZJ l (r.ge q G)),ZJ f (ZJ (by simp) a.size)⟩
  simp[intOf];omega
 have V:¬(k:Int)<(T.ndf:Int):=by omega
 have p:k=T.ndf:=by have:=N4.out;omega
 have dT:=(s.out wr b).c4;have N:Hid ((HD4++XJ T.df T.ndf 1).length<=700):=by show _<=_;have:=M.out;have:=N4.out;rw[Zl,Xg];omega
 have m:Vm base u9 (HD4++XJ T.df T.ndf 1) wr:=by rw[<-p];exact r
 clear p o r;generalize HD4++XJ T.df T.ndf 1=HD5 at *;go_wp2;clear dT
 go_loopw [9,14] (λv i w'=>∃k:Nat,k<=T.nck/\i=I6 k/\Vm base v (HD5++XI T.ck T.nx k) w'/\Below w1.heap.size w1 w'/\base<=w'.heap.size) (λ_ i _=>T.nck-(intOf i).toNat)
 ·exact⟨0,by omega,rfl,by simpa[XI]using m,b,f⟩
 clear m b f;obtain⟨k,hk,rfl,r,b,f⟩:=hrel;by_cases o:k<T.nck
 ·have F:(k:Int)<(T.nck:Int):=by omega
  have aW:(k:Int)<(T.nnx:Int):=by have:=N6.out;omega
  obtain⟨b5,o5,h5,c5⟩:=(Z.out wr b).l5 k o;obtain⟨b6,o6,h6,c6⟩:=(Z.out wr b).l6 k (by have:=N6.out;omega);have d5:=(s.out wr b).c5;have d6:=(s.out wr b).c6;have HC:Hid (∀w',Below w1.heap.size w1 w'->w'.cell? (a_ bx 5)=some (.slice (some (a_ b5 o5)) T.nck A.c5)/\w'.cell? (a_ b5 (o5+k))=some (I6 (T.ck k))/\w'.cell? (a_ bx 6)=some (.slice (some (a_ b6 o6)) T.nnx A.c6)/\w'.cell? (a_ b6 (o6+k))=some (I6 (T.nx k))):=λw' h'=>by
   obtain⟨b',o',h1,h2⟩:=(Z.out w' h').l5 k o;rw[h5]at h1;cases h1;obtain⟨aY,a6,h3,h4⟩:=(Z.out w' h').l6 k (by have:=N6.out;omega);rw[h6]at h3;cases h3;exact⟨by rw[<-h5];exact(s.out w' h').c5,h2,by rw[<-h6];exact(s.out w' h').c6,h4⟩
  rw[h5]at d5;rw[h6]at d6;clear h5 h6;have z:Hid (HD5++XI T.ck T.nx (k+1)=(HD5++XI T.ck T.nx k)++[Y3 (T.ck k+1),Y3 (T.nx k+1)]):=by show _=_;rw[SQ,Zs]
  have aF:=au.out k o;have t:(HD5++XI T.ck T.nx k).length<=1000000:=by have:=N.out;rw[Zl,U0];omega
  generalize HD5++XI T.ck T.nx k=L at *;generalize T.ck k=x at *;generalize T.nx k=y at *;have aD:IntKind.u8.wrap (IntKind.i64.wrap (x+1))=((Y3 (x+1)).toNat:Int):=by rw[Yq,IntKind.wrap_u8',IntKind.wrap_i64];omega
  have aE:IntKind.u8.wrap (IntKind.i64.wrap (y+1))=((Y3 (y+1)).toNat:Int):=by rw[Yq,IntKind.wrap_u8',IntKind.wrap_i64];omega
  have aL:Hid (IntKind.u8.wrap (IntKind.i64.wrap (x+1))=((Y3 (x+1)).toNat:Int)):=aD;have aM:Hid (IntKind.u8.wrap (IntKind.i64.wrap (y+1))=((Y3 (y+1)).toNat:Int)):=aE;clear aD aE;go_wp2;have n:Vm base u9 L (wr.alloc (.cells #[.int .u8 (IntKind.u8.wrap (IntKind.i64.wrap (x+1))),.int .u8 (IntKind.u8.wrap (IntKind.i64.wrap (y+1)))] 5)).drew:=r.below (((Zk _ _).alloc (Zg _) _).drew);have d:Below w1.heap.size w1 (wr.alloc (.cells #[.int .u8 (IntKind.u8.wrap (IntKind.i64.wrap (x+1))),.int .u8 (IntKind.u8.wrap (IntKind.i64.wrap (y+1)))] 5)).drew:=(b.alloc b.size _).drew;have aS:(wr.alloc (.cells #[.int .u8 (IntKind.u8.wrap (IntKind.i64.wrap (x+1))),.int .u8 (IntKind.u8.wrap (IntKind.i64.wrap (y+1)))] 5)).drew.cell? (a_ wr.heap.size 0)=some (.int .u8 ((Y3 (x+1)).toNat:Int)):=by rw[<-aL.out];exact Zm wr _ _ 0
  have aT:(wr.alloc (.cells #[.int .u8 (IntKind.u8.wrap (IntKind.i64.wrap (x+1))),.int .u8 (IntKind.u8.wrap (IntKind.i64.wrap (y+1)))] 5)).drew.cell? (a_ wr.heap.size 1)=some (.int .u8 ((Y3 (y+1)).toNat:Int)):=by rw[<-aM.out];exact Zm wr _ _ 1
  have E:base<=(wr.alloc (.cells #[.int .u8 (IntKind.u8.wrap (IntKind.i64.wrap (x+1))),.int .u8 (IntKind.u8.wrap (IntKind.i64.wrap (y+1)))] 5)).drew.heap.size:=ZJ f (by simp)
  go_region_held3 (λw'=>w'.cell? (a_ bx 5)=some (.slice (some (a_ b5 o5)) T.nck A.c5)/\w'.cell? (a_ b5 (o5+k))=some (I6 x)/\w'.cell? (a_ bx 6)=some (.slice (some (a_ b6 o6)) T.nnx A.c6)/\w'.cell? (a_ b6 (o6+k))=some (I6 y)) (first|exact HC.out _ b|exact HC.out _ b.drew|exact HC.out _ d|exact HC.out _ (d.grown a d.size (λq G=>ZJ l (r.ge q G)))|go_keep)
   ((refine Hh (by rfl) _ _ (by rfl) base u9 L (by rfl) n t wr.heap.size (Y3 (x+1)) (Y3 (y+1)) (by rfl) aS aT E ?_;intro g cap w2 u a))
  go_wp2;go_roundw
  ·exact⟨k+1,by omega,by go_num,by rw[z.out];exact u,d.grown a d.size (λq G=>ZJ l (r.ge q G)),ZJ E a.size⟩
  simp[intOf];omega
 have⟨V,p⟩:¬(k:Int)<(T.nck:Int)/\k=T.nck:=by omega
 have an:(UI T).length<=1000000:=by rw[HH.out];have:=N.out;rw[Zl,U0];omega
 have m:Vm base u9 (UI T) wr:=by rw[HH.out,<-p];exact r
 have aQ:0<(UI T).length:=by
  have aN:(UI T).length=_:=rfl;unfold UI at aN ⊢;simp only[Zl,List.length_cons];omega
 clear p r ai J K M N aq ar au;generalize S:UI T=body at *;have HF:Hid (R0 T=body++Uv body):=by show _=_;rw[R0,S]
 clear S HH;rcases X7.ofOwns m with ⟨_,h⟩|⟨g,cap,rfl,_,_,_,q4,_⟩
 ·have:(Tv body).length=0:=by rw[h];rfl
  rw[TJ]at this;omega
 rw[TJ]at *;obtain⟨s1,X⟩:∃s1:ByteArray,s1=⟨body.toArray⟩:=⟨_,rfl⟩;obtain⟨s2,hs2⟩:∃s2:ByteArray,s2=⟨(Uv body).toArray⟩:=⟨_,rfl⟩;have z1:s1.size<=1000000:=by rw[X];simpa[ByteArray.size]using an
 have z2:s2.size=4:=by rw[hs2];rfl
 have aR:(convert 99 9 (sL g body.length cap)).run Tryz.prog wr=.ok (.string s1) wr:=by
  rw[X];exact run_convert_bytes_back (P:=Tryz.prog) wr 99 9 5 (a_ g 0) cap body u_e u_g u_i (λj hj=>by
   rw[Addr.add_lit,Zn];exact q4 j _ (by simp[Tv,hj]))
 have aH:Hid (Calls Tryz.prog 42 #[.string s1] wr λe w'=>e=.returned (.string s2)/\Below wr.heap.size wr w'):=by
  have h:=Jh s1 wr z1;rw[show Uv s1.data.toList=Uv body by rw[X],<-hs2]at h;exact h
 have aG:Hid ((⟨(R0 T).toArray⟩:ByteArray)=s1++s2):=by
  show _=_;rw[HF.out,X,hs2];exact Me _ _
 clear q4 X hs2 HF m;go_wp2_with fail;refine aH.out.mono ?_;rintro e a7 ⟨rfl,az⟩;go_wp2;go_ret2;refine⟨?_,Or.inl ⟨aa.out,?_⟩⟩
 ·have h1:=b.trans (az.mono b.size);have h2:=aI.out;rw[aK.out];exact h2.trans (h1.mono (by omega))
 rw[aG.out];rfl
end Go.Proofs.YtoaaklhpmhjhkaaGreat
