import Derived.Deep.AppendLies
import Derived.Test.YtoaaklhpmhjhkaaGreatC02
set_option maxRecDepth 100000
set_option maxHeartbeats 4000000
set_option linter.all false
namespace Go.Proofs.YtoaaklhpmhjhkaaGreat
open Go.RowKit
namespace Bm
def ints (l:List Int):List Value:=l.map λx=>.int .i64 x
theorem ints_append (a b:List Int):ints (a++b)=ints a++ints b:=by simp[ints]
def OwnL (base:Nat) (v:Value) (l:List Int) (w:World):Prop:=w.ownsRow base 3 1 v l.length (ints l)
theorem OwnL.nil (base:Nat) (w:World):OwnL base (.slice none 0 0) [] w:=⟨rfl,Or.inl ⟨rfl,rfl⟩⟩
variable {base : Nat}{v : Value}{w : World}
theorem OwnL.blk {l:List Int} (h:OwnL base v l w):∀k,v.ownBlock=some k->base<=k/\k<w.heap.size:=λk a=>h.lt k a
variable {w' : World}
theorem OwnL.keep {l:List Int} (h:OwnL base v l w) (hk:∀k,v.ownBlock=some k->w'.heap[k]?=w.heap[k]?):OwnL base v l w':=by
 refine⟨h.1,?_⟩;rcases h.2 with b|⟨g,cap,a,rfl,c,d,e⟩
 ·exact Or.inl b
 exact Or.inr ⟨g,cap,a,rfl,c,by rw[hk g rfl];exact d,e⟩
theorem OwnL.below {l:List Int} (h:OwnL base v l w) (hW:Below w.heap.size w w'):OwnL base v l w':=h.keep (λk a=>hW.block k (h.blk k a).2)
variable {base' : Nat}
theorem OwnL.mono {l:List Int} (h:OwnL base v l w) (hb:base'<=base):OwnL base' v l w:=
 ⟨h.1,h.2.imp id (λ⟨g,cap,d,a,b,c⟩=>⟨g,cap,d,a,Nat.le_trans hb b,c⟩)⟩
variable {row : Option Nat}
theorem OwnL.grown {l:List Int} (h:OwnL base v l w) (hg:w.grownBy w' row) (hne:∀k,v.ownBlock=some k->row≠some k):OwnL base v l w':=
 h.keep (λk a=>hg.block k (h.blk k a).2 (λe=>hne k a e.symm))
theorem OwnL.il {l:List Int} (h:OwnL base v l w):∃ad cap,v=.slice ad l.length cap/\IL ad (λi=>l.getD i 0) l.length w:=by
 rcases h.2 with ⟨rfl,d⟩|⟨g,cap,c,rfl,e,f,j,k,m,n⟩
 ·refine⟨none,0,by rw[d],λi a=>by omega⟩
 refine⟨some ⟨g,0,none⟩,cap,rfl,λi a=>⟨g,0,rfl,?_⟩⟩;have b:=h.cells (g:=g) rfl i (.int .i64 (l.getD i 0)) (by simp[ints,List.getD_eq_getElem?_getD,a]);rw[Addr.add_lit]at b;exact b
variable {a : Act}{ops : Array Oper}{Q : Exit → Act → World → Prop}{rest : List Oper}{o : Oper}
theorem wpList_append_int (hgd:o.guard=none) (s x:Operand)
  (ho:o.op=.call { callee:=.builtin .append,args:=#[s,x],argTypes:=#[23,23] }) (base:Nat)
  (v:Value) (l:List Int) (hs:a.eval s=v) (hown:OwnL base v l w) (hn:l.length<=1000000)
  (B:Nat) (t:Int) (hx:a.eval x=.slice (some ⟨B,0,none⟩) 1 1) (hnews:w.cell? ⟨B,0,none⟩=some (.int .i64 t)) (hbase:base<=w.heap.size) (H:Nat) (hH:w.heap.size=H)
  (h:∀g cap w',OwnL base (.slice (some ⟨g,0,none⟩) (l.length+1) cap) (l++[t]) w'->w.grownBy w' v.ownBlock->(v.ownBlock=some g\/g=H)->g<w'.heap.size->wpList Tryz.prog ops Q rest (a.put o.dst (.slice (some ⟨g,0,none⟩) (l.length+1) cap)) w'):wpList Tryz.prog ops Q (o::rest) a w:=by
 obtain⟨i,p,c,d,e⟩:=eInfoInt;refine wpList_append_lies w hgd s x 23 ho base 3 i (.int .i64 0) 1 8 Tryz.underlying23 p c d e rfl (by omega) v l.length (ints l) hs hown ⟨B,0,none⟩ 1 1 [.int .i64 t] hx rfl (λj u b=>?_) (by simp[Value.oneCell']) (by omega) (by unfold maxLen;omega) (by omega) hbase H hH ?_
 ·rw[Addr.add_lit,Nat.zero_add];cases j with
  |zero=>simp at b;subst b;exact hnews
  |succ j=>simp at b
 intro g cap w' f k m n;refine h g cap w' ?_ k m n;unfold OwnL;rw[ints_append,List.length_append];exact f
def TC (t:Nat) (L:List Value) (w:World):Prop:=∀k v,L[k]?=some v->w.cell? ⟨t,k,none⟩=some v/\w.frozen? ⟨t,k,none⟩=false
variable {L : List Value}
theorem TC.block {t:Nat} (h:TC t L w) (hb:w'.heap[t]?=w.heap[t]?):TC t L w':=λk v b=>by
 rw[World.cell?_of_block (w:=w) (a:=⟨t,k,none⟩) hb,World.frozen?_of_block (w:=w) (a:=⟨t,k,none⟩) hb];exact h k v b
theorem TC.lt {t:Nat} (h:TC t (v::L) w):t<w.heap.size:=World.block_lt_of_cell? w _ (h 0 v rfl).1
theorem TC.below {t:Nat} (h:TC t (v::L) w) (hW:Below w.heap.size w w'):TC t (v::L) w':=h.block (hW.block t h.lt)
theorem TC.set {t:Nat} (h:TC t L w) (q:Nat) (hq:q<L.length) (u:Value):TC t (L.set q u) (w.setCell ⟨t,q,none⟩ u):=λk v a=>by
 rw[World.frozen?_setCell];by_cases e:k=q
 ·subst e;rw[List.getElem?_set_self hq]at a;obtain⟨b,c⟩:=h k L[k] (List.getElem?_eq_getElem hq);cases a;exact⟨World.cell?_setCell_same w ⟨t,k,none⟩ u (by rw[b]),c⟩
 rw[List.getElem?_set_ne (λx=>e x.symm)]at a;obtain⟨b,c⟩:=h k v a;exact⟨by rw[World.cell?_setCell_other _ _ _ _ (by intro d;cases d;exact e rfl)];exact b,c⟩
theorem TC.range {t:Nat} (h:TC t L w):w.rangeAt t 0 L:=λk v a=>by rw[Nat.zero_add];exact(h k v a).1
theorem TC.there {t:Nat} (h:TC t L w):w.there t 0 L.length:=λj c=>by
 rw[Nat.zero_add];obtain⟨a,b⟩:=h j L[j] (List.getElem?_eq_getElem c);exact⟨by rw[a];rfl,b⟩
theorem TC.boxed (w:World) (L:List Value) (ty:TypeId):TC w.heap.size L (w.alloc (.cells L.toArray ty)):=λk v a=>by
 refine⟨by rw[World.cell?_alloc_new];simpa using a,?_⟩;go_simp
theorem box_bel (w:World) (o:Obj):Below w.heap.size w (w.alloc o):=(Below.refl _ _).alloc (Nat.le_refl _) o
variable {fn : Func}
theorem res_cell1 {p:Tmp}{ty:TypeId} (h:fn.results=#[.cell p ty]) (tmps:Array Value) (P:Program) (w:World):
  (results fn tmps).run P w=((asAddr (tmps.getD p undef)).run P w).andThen λa w₁=>(loadVar ty a).run P w₁:=by
 simp only[results,h];simp[Sem.run_bind,Result.andThen]
variable {tmps : Array Value}
theorem res_load1 {p:Tmp}{ty:TypeId}{P:Program}{ad:Addr} (h:fn.results=#[.cell p ty]) (ht:tmps.getD p undef=.pointer (some ad)) (hl:(loadVar ty ad).run P w=.ok v w):
  (results fn tmps).run P w=.ok v w:=by
 rw[res_cell1 h,ht];simp[asAddr,hl]
end Bm
namespace Bu
open Go.RowKit
open Bm
theorem grown_refl (w:World) (r:Option Nat):w.grownBy w r:=⟨rfl,rfl,rfl,Nat.le_refl _,λ_ _ _=>rfl⟩
theorem grown_trans {a b c:World}{r:Option Nat} (h:a.grownBy b r) (k:b.grownBy c r):a.grownBy c r:=
 ⟨k.os.trans h.os,k.tape.trans h.tape,k.output.trans h.output,Nat.le_trans h.size k.size,λq d e=>(k.block q (Nat.lt_of_lt_of_le d h.size) e).trans (h.block q d e)⟩
variable {b n : Nat}{W : World}
theorem there_lt {o:Nat} (h:W.there b o n) (hn:0<n):b<W.heap.size:=by
 have a:=(h 0 hn).1;obtain⟨v,c⟩:=Option.isSome_iff_exists.1 a;exact World.block_lt_of_cell? W _ c
variable {W' : World}
theorem there_blk {o:Nat} (h:W.there b o n) (hk:W'.heap[b]?=W.heap[b]?):W'.there b o n:=λj c=>by
 rw[World.cell?_of_block (w:=W) (w':=W') (a:=⟨b,o+j,none⟩) hk,World.frozen?_of_block (w:=W) (w':=W') (a:=⟨b,o+j,none⟩) hk];exact h j c
variable {g : Nat}{w w' : World}
theorem nrow_blk {f:Nat->Int} (h:NRow g f n w) (hb:w'.heap[g]?=w.heap[g]?):NRow g f n w':=λk b=>by
 rw[World.cell?_of_block (w:=w) (a:=⟨g,k,none⟩) hb,World.frozen?_of_block (w:=w) (a:=⟨g,k,none⟩) hb];exact h k b
def Rm (v:Value) (g c:Nat) (w:World):Prop:=∃n,n<=c/\c<=maxLen/\((v=.slice none 0 0/\n=0/\c=0)\/v=.slice (some ⟨g,0,none⟩) n c)/\w.there g 0 c
variable {v : Value}
theorem Rm.blk {c:Nat} (h:Rm v g c w) (hb:0<c->w'.heap[g]?=w.heap[g]?):Rm v g c w':=by
 obtain⟨n,a,b,d,f⟩:=h;refine⟨n,a,b,d,?_⟩;rcases Nat.eq_zero_or_pos c with e|e
 ·intro j i;omega
 exact there_blk f (hb e)
theorem Rm.lt {c:Nat} (h:Rm v g c w) (hc:0<c):g<w.heap.size:=by
 obtain⟨n,b,d,e,a⟩:=h;exact there_lt a hc
theorem Rm.below {c:Nat} (h:Rm v g c w) (hW:Below w.heap.size w w'):Rm v g c w':=h.blk (λa=>hW.block g (h.lt a))
variable {B : Nat}
theorem own_rm {l:List Int} (h:OwnL B v l w):∃g c,Rm v g c w/\(0<c->v.ownBlock=some g):=by
 rcases h.2 with ⟨rfl,i⟩|⟨g,cap,a,rfl,k,b,d,e,m,n⟩
 ·exact⟨0,0,⟨0,by omega,by omega,Or.inl ⟨rfl,rfl,rfl⟩,λj f=>by omega⟩,λh=>by omega⟩
 refine⟨g,cap,⟨l.length,d,e,Or.inr rfl,λj f=>?_⟩,λ_=>rfl⟩;rw[Nat.zero_add,cell_of_row w g j a _ (0,0) b];refine⟨by simp;omega,?_⟩;simp[World.frozen?,b]
theorem fullR_any (v:Value) (g c:Nat) (x:Int) (w:World) (h:Rm v g c w):
  Calls Tryz.prog 24 #[v,.int .i64 x] w λe w'=>e=.returned (.tuple #[])/\NRow g (λ_=>x) c w'/\w.grownBy w' (if c=0 then none else some g)/\w'.heap.size=w.heap.size:=by
 obtain⟨n,I,D,F,a⟩:=h;rcases F with ⟨rfl,rfl,rfl⟩|rfl
 ·go_enter Tryz.func24,Tryz.ntmps24;go_wp2_with fail
  go_loopw [5] (λi w'=>i=.int .i64 0/\w'=w) (λ_ _=>0)
  ·exact⟨rfl,rfl⟩
  obtain⟨rfl,rfl⟩:=hrel;go_wp2_with fail;go_end0;exact⟨rfl,λk t=>by omega,grown_refl _ _,rfl⟩
 unfold maxLen at D;have E:(c:Int)<=9223372036854775807:=by omega
 obtain⟨row,b⟩:∃row:Option Nat,row=if c=0 then none else some g:=⟨_,rfl⟩
 have f:Hid (0<c->row=some g):=λh=>by rw[b,if_neg (by omega)]
 rw[<-b];clear b;go_enter Tryz.func24,Tryz.ntmps24;go_wp2_with fail
 go_loopw [5] (λi w'=>∃k:Nat,k<=c/\i=.int .i64 k/\NRow g (λ_=>x) k w'/\w'.there g 0 c/\w.grownBy w' row/\w'.heap.size=w.heap.size) (λi _=>c-(intOf i).toNat)
 ·exact⟨0,by omega,rfl,λk t=>by omega,a,grown_refl _ _,rfl⟩
 clear a;obtain⟨k,t,rfl,d,a,l,r⟩:=hrel;by_cases p:k<c
 ·obtain⟨m,q⟩:=a k p;rw[Nat.zero_add]at m q;obtain⟨y,z⟩:=Option.isSome_iff_exists.1 m;have u:(k:Int)<c:=by omega
  have C:Hid ((wr.setCell ⟨g,k,none⟩ (.int .i64 x)).there g 0 c):=λj s=>by
   obtain⟨G,H⟩:=a j s;rw[World.frozen?_setCell];refine⟨?_,H⟩;by_cases e:j=k
   ·subst e;rw[Nat.zero_add,World.cell?_setCell_same _ _ _ (by rw[z])];rfl
   rw[World.cell?_setCell_other _ _ _ _ (by intro o;have:=congrArg Addr.off o;simp at this;omega)];exact G
  have B:Hid (NRow g (λ_=>x) (k+1) (wr.setCell ⟨g,k,none⟩ (.int .i64 x))):=λj s=>by
   rw[World.frozen?_setCell];by_cases e:j=k
   ·subst e;rw[World.cell?_setCell_same _ _ _ (by rw[z])];exact⟨rfl,q⟩
   rw[World.cell?_setCell_other _ _ _ _ (by intro o;have:=congrArg Addr.off o;simp at this;omega)];exact d j (by omega)
  have A:Hid (w.grownBy (wr.setCell ⟨g,k,none⟩ (.int .i64 x)) row):=by
   show w.grownBy _ _;rw[f.out (by omega)]at l ⊢;exact grown_trans l (q0e g [.int .i64 x] k _)
  clear a d l m;go_wp2_with fail;go_roundw
  ·exact⟨k+1,by omega,by go_num,B.out,C.out,A.out,by simp[World.setCell];exact r⟩
  simp[intOf];omega
 have⟨hge,hkc⟩:¬(k:Int)<c/\k=c:=by omega
 subst hkc;go_wp2_with fail;go_end0;exact⟨rfl,d,l,r⟩
theorem readsR_any (v:Value) (g c:Nat) (x:Int) (w:World) (h:Rm v g c w) (hR:NRow g (λ_=>x) c w):
  Calls Tryz.prog 25 #[v,.int .i64 x] w λe w'=>e=.returned (.bool true)/\w'=w:=by
 obtain⟨n,r,f,p,b⟩:=h;clear b;unfold maxLen at f;have j:(c:Int)<=9223372036854775807:=by omega
 rcases p with ⟨rfl,rfl,rfl⟩|rfl
 ·go_enter Tryz.func25,Tryz.ntmps25;go_wp2_with fail
  go_loopw [6] (λi w'=>i=.int .i64 0/\w'=w) (λ_ _=>0)
  ·exact⟨rfl,rfl⟩
  obtain⟨rfl,rfl⟩:=hrel;go_wp2_with fail;go_ret;exact⟨rfl,rfl⟩
 go_enter Tryz.func25,Tryz.ntmps25;go_wp2_with fail
 go_loopw [6] (λi w'=>∃k:Nat,k<=c/\i=.int .i64 k/\w'=w) (λi _=>c-(intOf i).toNat)
 ·exact⟨0,by omega,rfl,rfl⟩
 obtain⟨k,q,rfl,rfl⟩:=hrel;by_cases a:k<c
 ·obtain⟨l,m⟩:=hR k a;have d:(k:Int)<c:=by omega
  go_wp2_with fail;go_roundw
  ·exact⟨k+1,by omega,by go_num,trivial⟩
  simp[intOf];omega
 have o:¬(k:Int)<c:=by omega
 go_wp2_with fail;go_ret;exact⟨rfl,rfl⟩
structure ThR (vv:Nat->Value) (G C:Nat->Nat) (w:World):Prop where
 r:∀i,1<=i->i<=3->Rm (vv i) (G i) (C i) w
 ap:∀i j,1<=i->i<=3->1<=j->j<=3->i≠j->0<C i->0<C j->G i≠G j
variable {C : Nat → Nat}{vv : Nat → Value}
theorem ThR.below {G:Nat->Nat} (h:ThR vv G C w) (hW:Below w.heap.size w w'):ThR vv G C w':=⟨λi a b=>(h.r i a b).below hW,h.ap⟩
def triC (r:Int) (vv:Nat->Value):Array Value:=#[.int .i64 r,vv 1,vv 2,vv 3]
structure FU (vv:Nat->Value) (G C:Nat->Nat) (B bx k:Nat) (r:Int) (w W:World):Prop where
 t:TC bx (triC r vv).toList W
 tri:ThR vv G C W
 full:∀i,1<=i->i<=3->i<=k->NRow (G i) (fun _=>7777776+(i:Int)) (C i) W
 bel:Below B w W
 low:∀i,1<=i->i<=3->0<C i->G i<bx
 sz:W.heap.size=bx+1
 kept:∀q,q<bx->(∀i,1<=i->i<=3->0<C i->q≠G i)->W.heap[q]?=w.heap[q]?
variable {k : Nat}
theorem FU.next {G:Nat->Nat}{bx:Nat}{r:Int} (h:FU vv G C B bx k r w W) (hk1:1<=k+1) (hk2:k+1<=3) (hB:∀i,1<=i->i<=3->0<C i->B<=G i) (hBx:B<=bx)
  (hn:NRow (G (k+1)) (λ_=>7777776+((k+1:Nat):Int)) (C (k+1)) W') (hg:W.grownBy W' (if C (k+1)=0 then none else some (G (k+1)))) (hz:W'.heap.size=W.heap.size):FU vv G C B bx (k+1) r w W':=by
 have hs:=h.sz;have m:∀q,q<W.heap.size->(0<C (k+1)->q≠G (k+1))->W'.heap[q]?=W.heap[q]?:=λq c b=>hg.block q c (by
  by_cases e:C (k+1)=0
  ·rw[if_pos e];simp
  rw[if_neg e];intro e2;exact b (by omega) (Option.some.inj e2))
 have o:=h.low;refine⟨h.t.block (m bx (by omega) (λa=>by have:=o (k+1) hk1 hk2 a;omega)),⟨λi d f=>?_,h.tri.ap⟩,λi d f x=>?_,?_,o,by rw[hz,hs],λq c b=>?_⟩
 ·by_cases e:i=k+1
  ·subst e;obtain⟨n,s,u,v,y⟩:=h.tri.r (k+1) d f;exact⟨n,s,u,v,λj l=>by rw[Nat.zero_add,(hn j l).1];exact⟨rfl,(hn j l).2⟩⟩
  exact(h.tri.r i d f).blk (λa=>m (G i) (by have:=o i d f a;omega) (λg=>h.tri.ap i (k+1) d f hk1 hk2 e a g))
 ·by_cases e:i=k+1
  ·subst e;exact hn
  have p:=h.full i d f (by omega);intro j l;have a:0<C i:=by omega
  exact(nrow_blk p (m (G i) (by have:=o i d f a;omega) (λg=>h.tri.ap i (k+1) d f hk1 hk2 e a g))) j l
 ·exact h.bel.grown hg (by omega) (λq c=>by
   by_cases e:C (k+1)=0
   ·rw[if_pos e]at c;cases c
   rw[if_neg e]at c;cases c;exact hB (k+1) hk1 hk2 (by omega))
 rw[m q (by omega) (λa=>b (k+1) hk1 hk2 a),h.kept q c b]
theorem fullMachine_any (r:Int) (vv:Nat->Value) (G C:Nat->Nat) (B:Nat) (w:World) (h:ThR vv G C w) (hB:∀i,1<=i->i<=3->0<C i->B<=G i) (hBw:B<=w.heap.size):
  Calls Tryz.prog 8 #[.agg (triC r vv)] w λe w'=>e=.returned (.tuple #[])/\ThR vv G C w'/\(∀i,1<=i->i<=3->NRow (G i) (λ_=>7777776+(i:Int)) (C i) w')/\Below B w w'/\(∀q,q<w.heap.size->(∀i,1<=i->i<=3->0<C i->q≠G i)->w'.heap[q]?=w.heap[q]?)/\w.heap.size<=w'.heap.size:=by
 obtain⟨W,c⟩:=nam (w.alloc (.cells (triC r vv) 25));have S0:FU vv G C B w.heap.size 0 r w W:=by
  rw[c];exact⟨TC.boxed w (triC r vv).toList _,h.below (box_bel _ _),λi d _ J=>by omega,(box_bel _ _).mono hBw,λi d f E=>(h.r i d f).lt E,by simp,λq H _=>(box_bel w _).block q H⟩
 have g:Hid (∀k W W',FU vv G C B w.heap.size k r w W->1<=k+1->k+1<=3->NRow (G (k+1)) (λ_=>7777776+((k+1:Nat):Int)) (C (k+1)) W'->W.grownBy W' (if C (k+1)=0 then none else some (G (k+1)))->W'.heap.size=W.heap.size->FU vv G C B w.heap.size (k+1) r w W'):=λk W W' F x y z A D=>F.next x y hB hBw z A D
 unfold triC at c ⊢;have a:=(S0.t 1 _ rfl).1;rw[c]at a;clear h hB;go_enter Tryz.func8,Tryz.ntmps8;go_wp2_with fail;rw[<-c];clear c a;refine Calls.mono (fullR_any (vv 1) (G 1) (C 1) 7777777 _ (S0.tri.r 1 (by omega) (by omega))) ?_;rintro e w1 ⟨rfl,n,j,s⟩;have S1:=g.out 0 _ _ S0 (by omega) (by omega) n j s;clear n j s S0;have a:=(S1.t 2 _ rfl).1;go_wp2_with fail;clear a;refine Calls.mono (fullR_any (vv 2) (G 2) (C 2) 7777778 _ (S1.tri.r 2 (by omega) (by omega))) ?_;rintro e w2 ⟨rfl,o,l,u⟩;have S2:=g.out 1 _ _ S1 (by omega) (by omega) o l u;clear o l u S1;have a:=(S2.t 3 _ rfl).1;go_wp2_with fail;clear a;refine Calls.mono (fullR_any (vv 3) (G 3) (C 3) 7777779 _ (S2.tri.r 3 (by omega) (by omega))) ?_;rintro e K ⟨rfl,p,m,v⟩;have b:=g.out 2 _ _ S2 (by omega) (by omega) p m v;clear p m v S2;go_wp2_with fail;go_end0;have I:=b.sz;exact⟨rfl,b.tri,λi d f=>b.full i d f f,b.bel,b.kept,by omega⟩
theorem filledMachine_any (r:Int) (vv:Nat->Value) (G C:Nat->Nat) (w:World) (h:ThR vv G C w) (hf:∀i,1<=i->i<=3->NRow (G i) (λ_=>7777776+(i:Int)) (C i) w):
  Calls Tryz.prog 9 #[.agg (triC r vv)] w λe w'=>e=.returned (.bool true)/\Below w.heap.size w w':=by
 obtain⟨W,a⟩:=nam (w.alloc (.cells (triC r vv) 25));have c:Below w.heap.size w W:=by rw[a];exact box_bel _ _
 have t0:TC w.heap.size (triC r vv).toList W:=by rw[a];exact TC.boxed w (triC r vv).toList _
 have b:Hid (∀(i:Nat) (x:Int),1<=i->i<=3->x=7777776+(i:Int)->Calls Tryz.prog 25 #[vv i,.int .i64 x] W λe w'=>e=.returned (.bool true)/\w'=W):=λi x d f j=>by
  subst j;exact readsR_any (vv i) (G i) (C i) _ W ((h.r i d f).below c) ((hf i d f).below c)
 have g:=(t0 1 _ rfl).1;have k:=(t0 2 _ rfl).1;have l:=(t0 3 _ rfl).1;unfold triC at a ⊢;rw[a]at g;clear h hf t0;go_enter Tryz.func9,Tryz.ntmps9;go_wp2_with fail;rw[<-a];clear a g;refine Calls.mono (b.out 1 7777777 (by omega) (by omega) (by omega)) ?_;rintro e W ⟨rfl,rfl⟩;go_wp2_with fail;refine Calls.mono (b.out 2 7777778 (by omega) (by omega) (by omega)) ?_;rintro e W ⟨rfl,rfl⟩;go_wp2_with fail;refine Calls.mono (b.out 3 7777779 (by omega) (by omega) (by omega)) ?_;rintro e W ⟨rfl,rfl⟩;go_wp2_with fail;go_ret;exact⟨rfl,c⟩
theorem sameMachine_any (r:Int) (a a':Nat->Option Addr) (n c c':Nat->Nat) (f:Nat->Nat->Int) (w:World) (hn:∀i,1<=i->i<=3->n i<=17592186044416) (h1:∀i,1<=i->i<=3->IL (a i) (f i) (n i) w) (h2:∀i,1<=i->i<=3->IL (a' i) (f i) (n i) w):
  Calls Tryz.prog 11 #[.agg (triC r (λi=>.slice (a i) (n i) (c i))),.agg (triC r (λi=>.slice (a' i) (n i) (c' i)))] w λe w'=>e=.returned (.bool true)/\Below w.heap.size w w':=by
 obtain⟨d,b⟩:=nam (w.alloc (.cells (triC r (λi=>.slice (a i) (n i) (c i))) 25));obtain⟨W,o⟩:=nam (d.alloc (.cells (triC r (λi=>.slice (a' i) (n i) (c' i))) 25));have F:Below w.heap.size w d:=by rw[b];exact box_bel _ _
 have E:d.heap.size=w.heap.size+1:=by rw[b];simp
 have xb:Below d.heap.size d W:=by rw[o];exact box_bel _ _
 have H:W.heap.size=w.heap.size+2:=by rw[o];simp[E]
 have q:TC w.heap.size (triC r (λi=>.slice (a i) (n i) (c i))).toList W:=by
  have:TC w.heap.size (triC r (λi=>.slice (a i) (n i) (c i))).toList d:=by rw[b];exact TC.boxed w (triC r (λi=>.slice (a i) (n i) (c i))).toList _
  exact this.block (xb.block _ (by omega))
 have s:TC (w.heap.size+1) (triC r (λi=>.slice (a' i) (n i) (c' i))).toList W:=by rw[o,<-E];exact TC.boxed d (triC r (λi=>.slice (a' i) (n i) (c' i))).toList _
 have t:Below w.heap.size w W:=F.trans (xb.mono (by omega));have HS:Hid (∀(i:Nat) (w':World),1<=i->i<=3->Below W.heap.size W w'->Calls Tryz.prog 32 #[.slice (a i) (n i) (c i),.slice (a' i) (n i) (c' i)] w' λe w''=>e=.returned (.bool true)/\Below w'.heap.size w' w''):=λi w' v x m=>q6S (a i) (a' i) (n i) (c i) (c' i) (f i) w' (hn i v x) (((h1 i v x).below t).below m) (((h2 i v x).below t).below m)
 have p:Hid (∀w',Below W.heap.size W w'->TC w.heap.size (triC r (λi=>.slice (a i) (n i) (c i))).toList w'/\TC (w.heap.size+1) (triC r (λi=>.slice (a' i) (n i) (c' i))).toList w'):=λw' m=>⟨q.block (m.block _ (by omega)),s.block (m.block _ (by omega))⟩
 have u:Hid (W=(w.alloc (.cells (triC r (λi=>.slice (a i) (n i) (c i))) 25)).alloc (.cells (triC r (λi=>.slice (a' i) (n i) (c' i))) 25)):=by show _=_;rw[o,b]
 have l:=hyd t;have y:=(q 0 _ rfl).1;have z:=(q 1 _ rfl).1;have A:=(s 0 _ rfl).1;have B:=(s 1 _ rfl).1;rw[u.out]at y z A B;clear hn h1 h2 b o F xb E H q s t;unfold triC at u y z A B ⊢;go_enter Tryz.func11,Tryz.ntmps11;go_wp2_with fail;rw[<-u.out];clear y z A B;refine Calls.mono (HS.out 1 W (by omega) (by omega) (Below.refl _ _)) ?_;rintro e w1 ⟨rfl,g⟩;have C:=((p.out w1 g).1 2 _ rfl).1;have D:=((p.out w1 g).2 2 _ rfl).1;go_wp2_with fail;clear C D;refine Calls.mono (HS.out 2 w1 (by omega) (by omega) g) ?_;rintro e w2 ⟨rfl,j⟩;have h:=g.trans (j.mono g.size);have C:=((p.out w2 h).1 3 _ rfl).1;have D:=((p.out w2 h).2 3 _ rfl).1;clear g j;go_wp2_with fail;clear C D;refine Calls.mono (HS.out 3 w2 (by omega) (by omega) h) ?_;rintro e I ⟨rfl,k⟩;have G:=h.trans (k.mono h.size);clear h k;go_wp2_with fail;go_ret;exact⟨rfl,l.out.trans (G.mono l.out.size)⟩
end Bu
end Go.Proofs.YtoaaklhpmhjhkaaGreat
