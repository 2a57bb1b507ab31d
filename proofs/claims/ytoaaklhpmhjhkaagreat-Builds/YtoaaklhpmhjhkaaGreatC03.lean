import Derived.Deep.AppendLies
import Derived.Test.YtoaaklhpmhjhkaaGreatC02
set_option maxRecDepth 100000
set_option maxHeartbeats 4000000
set_option linter.all false
namespace Go.Proofs.YtoaaklhpmhjhkaaGreat
open Go.RowKit
namespace Bm
def ints (l:List Int):List Value:=l.map fun x=>.int .i64 x
theorem ints_append (a b:List Int):ints (a++b)=ints a++ints b:=by simp[ints]
def OwnL (base:Nat) (v:Value) (l:List Int) (w:World):Prop:=w.ownsRow base 3 1 v l.length (ints l)
theorem OwnL.nil (base:Nat) (w:World):OwnL base (.slice none 0 0) [] w:=⟨rfl,Or.inl ⟨rfl,rfl⟩⟩
variable {base : Nat}{v : Value}{w : World}
theorem OwnL.blk {l:List Int} (h:OwnL base v l w):∀k,v.ownBlock=some k->base<=k/\k<w.heap.size:=fun k hk=>h.lt k hk
variable {w' : World}
theorem OwnL.keep {l:List Int} (h:OwnL base v l w) (hk:∀k,v.ownBlock=some k->w'.heap[k]?=w.heap[k]?):OwnL base v l w':=by
 refine⟨h.1,?_⟩;rcases h.2 with h0|⟨g,cap,cur,rfl,h1,h2,h3⟩
 ·exact Or.inl h0
 ·exact Or.inr ⟨g,cap,cur,rfl,h1,by rw[hk g rfl];exact h2,h3⟩
theorem OwnL.below {l:List Int} (h:OwnL base v l w) (hW:Below w.heap.size w w'):OwnL base v l w':=h.keep (fun k hk=>hW.block k (h.blk k hk).2)
variable {base' : Nat}
theorem OwnL.mono {l:List Int} (h:OwnL base v l w) (hb:base'<=base):OwnL base' v l w:=
 ⟨h.1,h.2.imp id (fun⟨g,cap,cur,a,b,c⟩=>⟨g,cap,cur,a,Nat.le_trans hb b,c⟩)⟩
variable {row : Option Nat}
theorem OwnL.grown {l:List Int} (h:OwnL base v l w) (hg:w.grownBy w' row) (hne:∀k,v.ownBlock=some k->row≠some k):OwnL base v l w':=
 h.keep (fun k hk=>hg.block k (h.blk k hk).2 (fun e=>hne k hk e.symm))
theorem OwnL.il {l:List Int} (h:OwnL base v l w):∃ad cap,v=.slice ad l.length cap/\IL ad (fun i=>l.getD i 0) l.length w:=by
 rcases h.2 with ⟨rfl,h0⟩|⟨g,cap,cur,rfl,h1,h2,h3,h4,h5,h6⟩
 ·refine⟨none,0,by rw[h0],fun i hi=>by omega⟩
 ·refine⟨some ⟨g,0,none⟩,cap,rfl,fun i hi=>⟨g,0,rfl,?_⟩⟩;have hx:=h.cells (g:=g) rfl i (.int .i64 (l.getD i 0)) (by simp[ints,List.getD_eq_getElem?_getD,hi]);rw[Addr.add_lit]at hx;exact hx
variable {a : Act}{ops : Array Oper}{Q : Exit → Act → World → Prop}{rest : List Oper}{o : Oper}
theorem wpList_append_int (hgd:o.guard=none) (s x:Operand)
  (ho:o.op=.call { callee:=.builtin .append,args:=#[s,x],argTypes:=#[23,23] }) (base:Nat)
  (v:Value) (l:List Int) (hs:a.eval s=v) (hown:OwnL base v l w) (hn:l.length<=1000000)
  (B:Nat) (t:Int) (hx:a.eval x=.slice (some ⟨B,0,none⟩) 1 1) (hnews:w.cell? ⟨B,0,none⟩=some (.int .i64 t)) (hbase:base<=w.heap.size) (H:Nat) (hH:w.heap.size=H)
  (h:∀g cap w',OwnL base (.slice (some ⟨g,0,none⟩) (l.length+1) cap) (l++[t]) w'->w.grownBy w' v.ownBlock->(v.ownBlock=some g\/g=H)->g<w'.heap.size->wpList Tryz.prog ops Q rest (a.put o.dst (.slice (some ⟨g,0,none⟩) (l.length+1) cap)) w'):wpList Tryz.prog ops Q (o::rest) a w:=by
 obtain⟨i,hi,hz0,hz1,hz2⟩:=eInfoInt;refine wpList_append_lies w hgd s x 23 ho base 3 i (.int .i64 0) 1 8 Tryz.underlying23 hi hz0 hz1 hz2 rfl (by omega) v l.length (ints l) hs hown ⟨B,0,none⟩ 1 1 [.int .i64 t] hx rfl (fun j u hu=>?_) (by simp[Value.oneCell']) (by omega) (by unfold maxLen;omega) (by omega) hbase H hH ?_
 ·rw[Addr.add_lit,Nat.zero_add];cases j with
  |zero=>simp at hu;subst hu;exact hnews
  |succ j=>simp at hu
 ·intro g cap w' h1 h2 h3 h4;refine h g cap w' ?_ h2 h3 h4;unfold OwnL;rw[ints_append,List.length_append];exact h1
def TC (t:Nat) (L:List Value) (w:World):Prop:=∀k v,L[k]?=some v->w.cell? ⟨t,k,none⟩=some v/\w.frozen? ⟨t,k,none⟩=false
variable {L : List Value}
theorem TC.block {t:Nat} (h:TC t L w) (hb:w'.heap[t]?=w.heap[t]?):TC t L w':=fun k v hv=>by
 rw[World.cell?_of_block (w:=w) (a:=⟨t,k,none⟩) hb,World.frozen?_of_block (w:=w) (a:=⟨t,k,none⟩) hb];exact h k v hv
theorem TC.lt {t:Nat} (h:TC t (v::L) w):t<w.heap.size:=World.block_lt_of_cell? w _ (h 0 v rfl).1
theorem TC.below {t:Nat} (h:TC t (v::L) w) (hW:Below w.heap.size w w'):TC t (v::L) w':=h.block (hW.block t h.lt)
theorem TC.set {t:Nat} (h:TC t L w) (q:Nat) (hq:q<L.length) (u:Value):TC t (L.set q u) (w.setCell ⟨t,q,none⟩ u):=fun k v hv=>by
 rw[World.frozen?_setCell];by_cases e:k=q
 ·subst e;rw[List.getElem?_set_self hq]at hv;obtain⟨h1,h2⟩:=h k L[k] (List.getElem?_eq_getElem hq);cases hv;exact⟨World.cell?_setCell_same w ⟨t,k,none⟩ u (by rw[h1]),h2⟩
 ·rw[List.getElem?_set_ne (fun x=>e x.symm)]at hv;obtain⟨h1,h2⟩:=h k v hv;exact⟨by rw[World.cell?_setCell_other _ _ _ _ (by intro he;cases he;exact e rfl)];exact h1,h2⟩
theorem TC.range {t:Nat} (h:TC t L w):w.rangeAt t 0 L:=fun k v hv=>by rw[Nat.zero_add];exact(h k v hv).1
theorem TC.there {t:Nat} (h:TC t L w):w.there t 0 L.length:=fun j hj=>by
 rw[Nat.zero_add];obtain⟨h1,h2⟩:=h j L[j] (List.getElem?_eq_getElem hj);exact⟨by rw[h1];rfl,h2⟩
theorem TC.boxed (w:World) (L:List Value) (ty:TypeId):TC w.heap.size L (w.alloc (.cells L.toArray ty)):=fun k v hv=>by
 refine⟨by rw[World.cell?_alloc_new];simpa using hv,?_⟩;go_simp
theorem box_bel (w:World) (o:Obj):Below w.heap.size w (w.alloc o):=(Below.refl _ _).alloc (Nat.le_refl _) o
variable {fn : Func}
theorem res_cell1 {p:Tmp}{ty:TypeId} (h:fn.results=#[.cell p ty]) (tmps:Array Value) (P:Program) (w:World):
  (results fn tmps).run P w=((asAddr (tmps.getD p undef)).run P w).andThen fun a w₁=>(loadVar ty a).run P w₁:=by
 simp only[results,h];simp[Sem.run_bind,Result.andThen]
variable {tmps : Array Value}
theorem res_load1 {p:Tmp}{ty:TypeId}{P:Program}{ad:Addr} (h:fn.results=#[.cell p ty]) (ht:tmps.getD p undef=.pointer (some ad)) (hl:(loadVar ty ad).run P w=.ok v w):
  (results fn tmps).run P w=.ok v w:=by
 rw[res_cell1 h,ht];simp[asAddr,hl]
end Bm
namespace Bu
open Go.RowKit
open Bm
theorem grown_refl (w:World) (r:Option Nat):w.grownBy w r:=⟨rfl,rfl,rfl,Nat.le_refl _,fun _ _ _=>rfl⟩
theorem grown_trans {a b c:World}{r:Option Nat} (h:a.grownBy b r) (k:b.grownBy c r):a.grownBy c r:=
 ⟨k.os.trans h.os,k.tape.trans h.tape,k.output.trans h.output,Nat.le_trans h.size k.size,fun q hq hr=>(k.block q (Nat.lt_of_lt_of_le hq h.size) hr).trans (h.block q hq hr)⟩
variable {b n : Nat}{W : World}
theorem there_lt {o:Nat} (h:W.there b o n) (hn:0<n):b<W.heap.size:=by
 have h0:=(h 0 hn).1;obtain⟨v,hv⟩:=Option.isSome_iff_exists.1 h0;exact World.block_lt_of_cell? W _ hv
variable {W' : World}
theorem there_blk {o:Nat} (h:W.there b o n) (hk:W'.heap[b]?=W.heap[b]?):W'.there b o n:=fun j hj=>by
 rw[World.cell?_of_block (w:=W) (w':=W') (a:=⟨b,o+j,none⟩) hk,World.frozen?_of_block (w:=W) (w':=W') (a:=⟨b,o+j,none⟩) hk];exact h j hj
variable {g : Nat}{w w' : World}
theorem nrow_blk {f:Nat->Int} (h:NRow g f n w) (hb:w'.heap[g]?=w.heap[g]?):NRow g f n w':=fun k hk=>by
 rw[World.cell?_of_block (w:=w) (a:=⟨g,k,none⟩) hb,World.frozen?_of_block (w:=w) (a:=⟨g,k,none⟩) hb];exact h k hk
def Rm (v:Value) (g c:Nat) (w:World):Prop:=∃n,n<=c/\c<=maxLen/\((v=.slice none 0 0/\n=0/\c=0)\/v=.slice (some ⟨g,0,none⟩) n c)/\w.there g 0 c
variable {v : Value}
theorem Rm.blk {c:Nat} (h:Rm v g c w) (hb:0<c->w'.heap[g]?=w.heap[g]?):Rm v g c w':=by
 obtain⟨n,h1,h2,h3,h4⟩:=h;refine⟨n,h1,h2,h3,?_⟩;rcases Nat.eq_zero_or_pos c with e|e
 ·intro j hj;omega
 ·exact there_blk h4 (hb e)
theorem Rm.lt {c:Nat} (h:Rm v g c w) (hc:0<c):g<w.heap.size:=by
 obtain⟨n,h1,h2,h3,h4⟩:=h;exact there_lt h4 hc
theorem Rm.below {c:Nat} (h:Rm v g c w) (hW:Below w.heap.size w w'):Rm v g c w':=h.blk (fun hc=>hW.block g (h.lt hc))
variable {B : Nat}
theorem own_rm {l:List Int} (h:OwnL B v l w):∃g c,Rm v g c w/\(0<c->v.ownBlock=some g):=by
 rcases h.2 with ⟨rfl,h0⟩|⟨g,cap,cur,rfl,h1,h2,h3,h4,h5,h6⟩
 ·exact⟨0,0,⟨0,by omega,by omega,Or.inl ⟨rfl,rfl,rfl⟩,fun j hj=>by omega⟩,fun h=>by omega⟩
 ·refine⟨g,cap,⟨l.length,h3,h4,Or.inr rfl,fun j hj=>?_⟩,fun _=>rfl⟩;rw[Nat.zero_add,cell_of_row w g j cur _ (0,0) h2];refine⟨by simp;omega,?_⟩;simp[World.frozen?,h2]
theorem fullR_any (v:Value) (g c:Nat) (x:Int) (w:World) (h:Rm v g c w):
  Calls Tryz.prog 24 #[v,.int .i64 x] w fun e w'=>e=.returned (.tuple #[])/\NRow g (fun _=>x) c w'/\w.grownBy w' (if c=0 then none else some g)/\w'.heap.size=w.heap.size:=by
 obtain⟨n,hn,hc,hv,hth⟩:=h;rcases hv with ⟨rfl,rfl,rfl⟩|rfl
 ·go_enter Tryz.func24,Tryz.ntmps24;go_wp2_with fail
  go_loopw [5] (fun i w'=>i=.int .i64 0/\w'=w) (fun _ _=>0)
  case atStart=>exact⟨rfl,rfl⟩
  case round=>
   obtain⟨rfl,rfl⟩:=hrel;go_wp2_with fail;go_end0;exact⟨rfl,fun k hk=>by omega,grown_refl _ _,rfl⟩
 ·unfold maxLen at hc;have hc':(c:Int)<=9223372036854775807:=by omega
  obtain⟨row,hrow⟩:∃row:Option Nat,row=if c=0 then none else some g:=⟨_,rfl⟩
  have Hrow:Hid (0<c->row=some g):=fun h=>by rw[hrow,if_neg (by omega)]
  rw[<-hrow];clear hrow;go_enter Tryz.func24,Tryz.ntmps24;go_wp2_with fail
  go_loopw [5] (fun i w'=>∃k:Nat,k<=c/\i=.int .i64 k/\NRow g (fun _=>x) k w'/\w'.there g 0 c/\w.grownBy w' row/\w'.heap.size=w.heap.size) (fun i _=>c-(intOf i).toNat)
  case atStart=>exact⟨0,by omega,rfl,fun k hk=>by omega,hth,grown_refl _ _,rfl⟩
  case round=>
   clear hth;obtain⟨k,hk,rfl,hR2,hth,hG,hS⟩:=hrel;by_cases hlt:k<c
   ·obtain⟨h1,h2⟩:=hth k hlt;rw[Nat.zero_add]at h1 h2;obtain⟨y,hy⟩:=Option.isSome_iff_exists.1 h1;have hlt':(k:Int)<c:=by omega
    have HT:Hid ((wr.setCell ⟨g,k,none⟩ (.int .i64 x)).there g 0 c):=fun j hj=>by
     obtain⟨j1,j2⟩:=hth j hj;rw[World.frozen?_setCell];refine⟨?_,j2⟩;by_cases e:j=k
     ·subst e;rw[Nat.zero_add,World.cell?_setCell_same _ _ _ (by rw[hy])];rfl
     ·rw[World.cell?_setCell_other _ _ _ _ (by intro he;have:=congrArg Addr.off he;simp at this;omega)];exact j1
    have HR:Hid (NRow g (fun _=>x) (k+1) (wr.setCell ⟨g,k,none⟩ (.int .i64 x))):=fun j hj=>by
     rw[World.frozen?_setCell];by_cases e:j=k
     ·subst e;rw[World.cell?_setCell_same _ _ _ (by rw[hy])];exact⟨rfl,h2⟩
     ·rw[World.cell?_setCell_other _ _ _ _ (by intro he;have:=congrArg Addr.off he;simp at this;omega)];exact hR2 j (by omega)
    have HG:Hid (w.grownBy (wr.setCell ⟨g,k,none⟩ (.int .i64 x)) row):=by
     show w.grownBy _ _;rw[Hrow.out (by omega)]at hG ⊢;exact grown_trans hG (q0e g [.int .i64 x] k _)
    clear hth hR2 hG h1;go_wp2_with fail;go_roundw
    case rel=>exact⟨k+1,by omega,by go_num,HR.out,HT.out,HG.out,by simp[World.setCell];exact hS⟩
    case measure=>simp[intOf];omega
   ·have hge:¬(k:Int)<c:=by omega
    have hkc:k=c:=by omega
    subst hkc;go_wp2_with fail;go_end0;exact⟨rfl,hR2,hG,hS⟩
theorem readsR_any (v:Value) (g c:Nat) (x:Int) (w:World) (h:Rm v g c w) (hR:NRow g (fun _=>x) c w):
  Calls Tryz.prog 25 #[v,.int .i64 x] w fun e w'=>e=.returned (.bool true)/\w'=w:=by
 obtain⟨n,hn,hc,hv,hth⟩:=h;clear hth;unfold maxLen at hc;have hc':(c:Int)<=9223372036854775807:=by omega
 rcases hv with ⟨rfl,rfl,rfl⟩|rfl
 ·go_enter Tryz.func25,Tryz.ntmps25;go_wp2_with fail
  go_loopw [6] (fun i w'=>i=.int .i64 0/\w'=w) (fun _ _=>0)
  case atStart=>exact⟨rfl,rfl⟩
  case round=>
   obtain⟨rfl,rfl⟩:=hrel;go_wp2_with fail;go_ret;exact⟨rfl,rfl⟩
 ·go_enter Tryz.func25,Tryz.ntmps25;go_wp2_with fail
  go_loopw [6] (fun i w'=>∃k:Nat,k<=c/\i=.int .i64 k/\w'=w) (fun i _=>c-(intOf i).toNat)
  case atStart=>exact⟨0,by omega,rfl,rfl⟩
  case round=>
   obtain⟨k,hk,rfl,rfl⟩:=hrel;by_cases hlt:k<c
   ·obtain⟨hcc,hff⟩:=hR k hlt;have hlt':(k:Int)<c:=by omega
    go_wp2_with fail;go_roundw
    case rel=>exact⟨k+1,by omega,by go_num,trivial⟩
    case measure=>simp[intOf];omega
   ·have hge:¬(k:Int)<c:=by omega
    go_wp2_with fail;go_ret;exact⟨rfl,rfl⟩
structure ThR (vv:Nat->Value) (G C:Nat->Nat) (w:World):Prop where
 r:∀i,1<=i->i<=3->Rm (vv i) (G i) (C i) w
 ap:∀i j,1<=i->i<=3->1<=j->j<=3->i≠j->0<C i->0<C j->G i≠G j
variable {C : Nat → Nat}{vv : Nat → Value}
theorem ThR.below {G:Nat->Nat} (h:ThR vv G C w) (hW:Below w.heap.size w w'):ThR vv G C w':=⟨fun i h1 h2=>(h.r i h1 h2).below hW,h.ap⟩
def triC (r:Int) (vv:Nat->Value):Array Value:=#[.int .i64 r,vv 1,vv 2,vv 3]
structure FU (vv:Nat->Value) (G C:Nat->Nat) (B bx k:Nat) (r:Int) (w W:World):Prop where
 t:TC bx (triC r vv).toList W
 tri:ThR vv G C W
 full:∀i,1<=i->i<=3->i<=k->NRow (G i) (fun _=>7777776+(i:Int)) (C i) W
 bel:Below B w W
 low:∀i,1<=i->i<=3->0<C i->G i<bx
 sz:W.heap.size=bx+1
 kept:∀q,q<bx->(∀i,1<=i->i<=3->0<C i->q≠G i)->W.heap[q]?=w.heap[q]?
variable {k : Nat}
theorem FU.next {G:Nat->Nat}{bx:Nat}{r:Int} (h:FU vv G C B bx k r w W) (hk1:1<=k+1) (hk2:k+1<=3) (hB:∀i,1<=i->i<=3->0<C i->B<=G i) (hBx:B<=bx)
  (hn:NRow (G (k+1)) (fun _=>7777776+((k+1:Nat):Int)) (C (k+1)) W') (hg:W.grownBy W' (if C (k+1)=0 then none else some (G (k+1)))) (hz:W'.heap.size=W.heap.size):FU vv G C B bx (k+1) r w W':=by
 have hs:=h.sz;have kp:∀q,q<W.heap.size->(0<C (k+1)->q≠G (k+1))->W'.heap[q]?=W.heap[q]?:=fun q hq hne=>hg.block q hq (by
  by_cases e:C (k+1)=0
  ·rw[if_pos e];simp
  ·rw[if_neg e];intro e2;exact hne (by omega) (Option.some.inj e2))
 have lw:=h.low;refine⟨h.t.block (kp bx (by omega) (fun hc=>by have:=lw (k+1) hk1 hk2 hc;omega)),⟨fun i i1 i2=>?_,h.tri.ap⟩,fun i i1 i2 i3=>?_,?_,lw,by rw[hz,hs],fun q hq hne=>?_⟩
 ·by_cases e:i=k+1
  ·subst e;obtain⟨n,r1,r2,r3,r4⟩:=h.tri.r (k+1) i1 i2;exact⟨n,r1,r2,r3,fun j hj=>by rw[Nat.zero_add,(hn j hj).1];exact⟨rfl,(hn j hj).2⟩⟩
  ·exact(h.tri.r i i1 i2).blk (fun hc=>kp (G i) (by have:=lw i i1 i2 hc;omega) (fun hc2=>h.tri.ap i (k+1) i1 i2 hk1 hk2 e hc hc2))
 ·by_cases e:i=k+1
  ·subst e;exact hn
  ·have hf:=h.full i i1 i2 (by omega);intro j hj;have hc:0<C i:=by omega
   exact(nrow_blk hf (kp (G i) (by have:=lw i i1 i2 hc;omega) (fun hc2=>h.tri.ap i (k+1) i1 i2 hk1 hk2 e hc hc2))) j hj
 ·exact h.bel.grown hg (by omega) (fun q hq=>by
   by_cases e:C (k+1)=0
   ·rw[if_pos e]at hq;cases hq
   ·rw[if_neg e]at hq;cases hq;exact hB (k+1) hk1 hk2 (by omega))
 ·rw[kp q (by omega) (fun hc=>hne (k+1) hk1 hk2 hc),h.kept q hq hne]
theorem fullMachine_any (r:Int) (vv:Nat->Value) (G C:Nat->Nat) (B:Nat) (w:World) (h:ThR vv G C w) (hB:∀i,1<=i->i<=3->0<C i->B<=G i) (hBw:B<=w.heap.size):
  Calls Tryz.prog 8 #[.agg (triC r vv)] w fun e w'=>e=.returned (.tuple #[])/\ThR vv G C w'/\(∀i,1<=i->i<=3->NRow (G i) (fun _=>7777776+(i:Int)) (C i) w')/\Below B w w'/\(∀q,q<w.heap.size->(∀i,1<=i->i<=3->0<C i->q≠G i)->w'.heap[q]?=w.heap[q]?)/\w.heap.size<=w'.heap.size:=by
 obtain⟨W,hW⟩:=nam (w.alloc (.cells (triC r vv) 25));have S0:FU vv G C B w.heap.size 0 r w W:=by
  rw[hW];exact⟨TC.boxed w (triC r vv).toList _,h.below (box_bel _ _),fun i i1 _ i3=>by omega,(box_bel _ _).mono hBw,fun i i1 i2 hc=>(h.r i i1 i2).lt hc,by simp,fun q hq _=>(box_bel w _).block q hq⟩
 have HN:Hid (∀k W W',FU vv G C B w.heap.size k r w W->1<=k+1->k+1<=3->NRow (G (k+1)) (fun _=>7777776+((k+1:Nat):Int)) (C (k+1)) W'->W.grownBy W' (if C (k+1)=0 then none else some (G (k+1)))->W'.heap.size=W.heap.size->FU vv G C B w.heap.size (k+1) r w W'):=fun k W W' hh h1 h2 h3 h4 h5=>hh.next h1 h2 hB hBw h3 h4 h5
 unfold triC at hW ⊢;have p1:=(S0.t 1 _ rfl).1;rw[hW]at p1;clear h hB;go_enter Tryz.func8,Tryz.ntmps8;go_wp2_with fail;rw[<-hW];clear hW p1;refine Calls.mono (fullR_any (vv 1) (G 1) (C 1) 7777777 _ (S0.tri.r 1 (by omega) (by omega))) ?_;rintro e w1 ⟨rfl,n1,g1,z1⟩;have S1:=HN.out 0 _ _ S0 (by omega) (by omega) n1 g1 z1;clear n1 g1 z1 S0;have p1:=(S1.t 2 _ rfl).1;go_wp2_with fail;clear p1;refine Calls.mono (fullR_any (vv 2) (G 2) (C 2) 7777778 _ (S1.tri.r 2 (by omega) (by omega))) ?_;rintro e w2 ⟨rfl,n2,g2,z2⟩;have S2:=HN.out 1 _ _ S1 (by omega) (by omega) n2 g2 z2;clear n2 g2 z2 S1;have p1:=(S2.t 3 _ rfl).1;go_wp2_with fail;clear p1;refine Calls.mono (fullR_any (vv 3) (G 3) (C 3) 7777779 _ (S2.tri.r 3 (by omega) (by omega))) ?_;rintro e w3 ⟨rfl,n3,g3,z3⟩;have S3:=HN.out 2 _ _ S2 (by omega) (by omega) n3 g3 z3;clear n3 g3 z3 S2;go_wp2_with fail;go_end0;have hz:=S3.sz;exact⟨rfl,S3.tri,fun i i1 i2=>S3.full i i1 i2 i2,S3.bel,S3.kept,by omega⟩
theorem filledMachine_any (r:Int) (vv:Nat->Value) (G C:Nat->Nat) (w:World) (h:ThR vv G C w) (hf:∀i,1<=i->i<=3->NRow (G i) (fun _=>7777776+(i:Int)) (C i) w):
  Calls Tryz.prog 9 #[.agg (triC r vv)] w fun e w'=>e=.returned (.bool true)/\Below w.heap.size w w':=by
 obtain⟨W,hW⟩:=nam (w.alloc (.cells (triC r vv) 25));have x0:Below w.heap.size w W:=by rw[hW];exact box_bel _ _
 have t0:TC w.heap.size (triC r vv).toList W:=by rw[hW];exact TC.boxed w (triC r vv).toList _
 have HR:Hid (∀(i:Nat) (x:Int),1<=i->i<=3->x=7777776+(i:Int)->Calls Tryz.prog 25 #[vv i,.int .i64 x] W fun e w'=>e=.returned (.bool true)/\w'=W):=fun i x i1 i2 hx=>by
  subst hx;exact readsR_any (vv i) (G i) (C i) _ W ((h.r i i1 i2).below x0) ((hf i i1 i2).below x0)
 have p1:=(t0 1 _ rfl).1;have p2:=(t0 2 _ rfl).1;have p3:=(t0 3 _ rfl).1;unfold triC at hW ⊢;rw[hW]at p1;clear h hf t0;go_enter Tryz.func9,Tryz.ntmps9;go_wp2_with fail;rw[<-hW];clear hW p1;refine Calls.mono (HR.out 1 7777777 (by omega) (by omega) (by omega)) ?_;rintro e W ⟨rfl,rfl⟩;go_wp2_with fail;refine Calls.mono (HR.out 2 7777778 (by omega) (by omega) (by omega)) ?_;rintro e W ⟨rfl,rfl⟩;go_wp2_with fail;refine Calls.mono (HR.out 3 7777779 (by omega) (by omega) (by omega)) ?_;rintro e W ⟨rfl,rfl⟩;go_wp2_with fail;go_ret;exact⟨rfl,x0⟩
theorem sameMachine_any (r:Int) (a a':Nat->Option Addr) (n c c':Nat->Nat) (f:Nat->Nat->Int) (w:World) (hn:∀i,1<=i->i<=3->n i<=17592186044416) (h1:∀i,1<=i->i<=3->IL (a i) (f i) (n i) w) (h2:∀i,1<=i->i<=3->IL (a' i) (f i) (n i) w):
  Calls Tryz.prog 11 #[.agg (triC r (fun i=>.slice (a i) (n i) (c i))),.agg (triC r (fun i=>.slice (a' i) (n i) (c' i)))] w fun e w'=>e=.returned (.bool true)/\Below w.heap.size w w':=by
 obtain⟨Wa,hWa⟩:=nam (w.alloc (.cells (triC r (fun i=>.slice (a i) (n i) (c i))) 25));obtain⟨W,hW⟩:=nam (Wa.alloc (.cells (triC r (fun i=>.slice (a' i) (n i) (c' i))) 25));have xa:Below w.heap.size w Wa:=by rw[hWa];exact box_bel _ _
 have za:Wa.heap.size=w.heap.size+1:=by rw[hWa];simp
 have xb:Below Wa.heap.size Wa W:=by rw[hW];exact box_bel _ _
 have zb:W.heap.size=w.heap.size+2:=by rw[hW];simp[za]
 have Ta:TC w.heap.size (triC r (fun i=>.slice (a i) (n i) (c i))).toList W:=by
  have:TC w.heap.size (triC r (fun i=>.slice (a i) (n i) (c i))).toList Wa:=by rw[hWa];exact TC.boxed w (triC r (fun i=>.slice (a i) (n i) (c i))).toList _
  exact this.block (xb.block _ (by omega))
 have Tb:TC (w.heap.size+1) (triC r (fun i=>.slice (a' i) (n i) (c' i))).toList W:=by rw[hW,<-za];exact TC.boxed Wa (triC r (fun i=>.slice (a' i) (n i) (c' i))).toList _
 have x0:Below w.heap.size w W:=xa.trans (xb.mono (by omega));have HS:Hid (∀(i:Nat) (w':World),1<=i->i<=3->Below W.heap.size W w'->Calls Tryz.prog 32 #[.slice (a i) (n i) (c i),.slice (a' i) (n i) (c' i)] w' fun e w''=>e=.returned (.bool true)/\Below w'.heap.size w' w''):=fun i w' i1 i2 hB=>q6S (a i) (a' i) (n i) (c i) (c' i) (f i) w' (hn i i1 i2) (((h1 i i1 i2).below x0).below hB) (((h2 i i1 i2).below x0).below hB)
 have HT:Hid (∀w',Below W.heap.size W w'->TC w.heap.size (triC r (fun i=>.slice (a i) (n i) (c i))).toList w'/\TC (w.heap.size+1) (triC r (fun i=>.slice (a' i) (n i) (c' i))).toList w'):=fun w' hB=>⟨Ta.block (hB.block _ (by omega)),Tb.block (hB.block _ (by omega))⟩
 have HW:Hid (W=(w.alloc (.cells (triC r (fun i=>.slice (a i) (n i) (c i))) 25)).alloc (.cells (triC r (fun i=>.slice (a' i) (n i) (c' i))) 25)):=by show _=_;rw[hW,hWa]
 have Hx0:=hyd x0;have p1:=(Ta 0 _ rfl).1;have p2:=(Ta 1 _ rfl).1;have p3:=(Tb 0 _ rfl).1;have p4:=(Tb 1 _ rfl).1;rw[HW.out]at p1 p2 p3 p4;clear hn h1 h2 hWa hW xa xb za zb Ta Tb x0;unfold triC at HW p1 p2 p3 p4 ⊢;go_enter Tryz.func11,Tryz.ntmps11;go_wp2_with fail;rw[<-HW.out];clear p1 p2 p3 p4;refine Calls.mono (HS.out 1 W (by omega) (by omega) (Below.refl _ _)) ?_;rintro e w1 ⟨rfl,B1⟩;have p5:=((HT.out w1 B1).1 2 _ rfl).1;have p6:=((HT.out w1 B1).2 2 _ rfl).1;go_wp2_with fail;clear p5 p6;refine Calls.mono (HS.out 2 w1 (by omega) (by omega) B1) ?_;rintro e w2 ⟨rfl,B2'⟩;have B2:=B1.trans (B2'.mono B1.size);have p5:=((HT.out w2 B2).1 3 _ rfl).1;have p6:=((HT.out w2 B2).2 3 _ rfl).1;clear B1 B2';go_wp2_with fail;clear p5 p6;refine Calls.mono (HS.out 3 w2 (by omega) (by omega) B2) ?_;rintro e w3 ⟨rfl,B3'⟩;have B3:=B2.trans (B3'.mono B2.size);clear B2 B3';go_wp2_with fail;go_ret;exact⟨rfl,Hx0.out.trans (B3.mono Hx0.out.size)⟩
end Bu
end Go.Proofs.YtoaaklhpmhjhkaaGreat
