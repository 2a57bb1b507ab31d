import Derived.Deep.AppendLies
import Derived.Test.YtoaaklhpmhjhkabGreatC04
set_option maxRecDepth 100000
set_option maxHeartbeats 4000000
set_option linter.all false
namespace Go.Proofs.YtoaaklhpmhjhkabGreat
section
open Go.RowKit
namespace Bm
def ints (l:List Int):List Value:=l.map fun x=>.int .i64 x
theorem ints_append (a b:List Int):ints (a++b)=ints a++ints b:=by simp[ints]
def OwnL (base:Nat) (v:Value) (l:List Int) (w:World):Prop:=w.ownsRow base 3 1 v l.length (ints l)
theorem OwnL.nil (base:Nat) (w:World):OwnL base (.slice none 0 0) [] w:=⟨rfl,Or.inl ⟨rfl,rfl⟩⟩
variable {base:Nat}{v:Value}{w:World}
theorem OwnL.blk {l:List Int} (h:OwnL base v l w):∀k,v.ownBlock=some k->base<=k/\k<w.heap.size:=fun k hk=>h.lt k hk
variable {w':World}
theorem OwnL.keep {l:List Int} (h:OwnL base v l w) (hk:∀k,v.ownBlock=some k->w'.heap[k]?=w.heap[k]?):OwnL base v l w':=by
 refine⟨h.1,?_⟩;rcases h.2 with h0|⟨g,cap,cur,rfl,h1,h2,h3⟩
 ·exact Or.inl h0
 ·exact Or.inr ⟨g,cap,cur,rfl,h1,by rw[hk g rfl];exact h2,h3⟩
theorem OwnL.below {l:List Int} (h:OwnL base v l w) (hW:Below w.heap.size w w'):OwnL base v l w':=h.keep (fun k hk=>hW.block k (h.blk k hk).2)
variable {base':Nat}
theorem OwnL.mono {l:List Int} (h:OwnL base v l w) (hb:base'<=base):OwnL base' v l w:=
 ⟨h.1,h.2.imp id (fun⟨g,cap,cur,a,b,c⟩=>⟨g,cap,cur,a,Nat.le_trans hb b,c⟩)⟩
variable {row:Option Nat}
theorem OwnL.grown {l:List Int} (h:OwnL base v l w) (hg:w.grownBy w' row) (hne:∀k,v.ownBlock=some k->row≠some k):OwnL base v l w':=
 h.keep (fun k hk=>hg.block k (h.blk k hk).2 (fun e=>hne k hk e.symm))
theorem OwnL.il {l:List Int} (h:OwnL base v l w):∃ad cap,v=.slice ad l.length cap/\IL ad (fun i=>l.getD i 0) l.length w:=by
 rcases h.2 with ⟨rfl,h0⟩|⟨g,cap,cur,rfl,h1,h2,h3,h4,h5,h6⟩
 ·refine⟨none,0,by rw[h0],fun i hi=>by omega⟩
 ·refine⟨some ⟨g,0,none⟩,cap,rfl,fun i hi=>⟨g,0,rfl,?_⟩⟩;have hx:=h.cells (g:=g) rfl i (.int .i64 (l.getD i 0)) (by simp[ints,List.getD_eq_getElem?_getD,hi]);rw[Addr.add_lit]at hx;exact hx
variable {a:Act}{ops:Array Oper}{Q:Exit->Act->World->Prop}{rest:List Oper}{o:Oper}
theorem wpList_append_int (hgd:o.guard=none) (s x:Operand)
  (ho:o.op=.call { callee:=.builtin .append,args:=#[s,x],argTypes:=#[39,39] }) (base:Nat)
  (v:Value) (l:List Int) (hs:a.eval s=v) (hown:OwnL base v l w) (hn:l.length<=1000000)
  (B:Nat) (t:Int) (hx:a.eval x=.slice (some ⟨B,0,none⟩) 1 1) (hnews:w.cell? ⟨B,0,none⟩=some (.int .i64 t)) (hbase:base<=w.heap.size) (H:Nat) (hH:w.heap.size=H)
  (h:∀g cap w',OwnL base (.slice (some ⟨g,0,none⟩) (l.length+1) cap) (l++[t]) w'->w.grownBy w' v.ownBlock->(v.ownBlock=some g\/g=H)->g<w'.heap.size->wpList Tryz.prog ops Q rest (a.put o.dst (.slice (some ⟨g,0,none⟩) (l.length+1) cap)) w'):wpList Tryz.prog ops Q (o::rest) a w:=by
 obtain⟨i,hi,hz0,hz1,hz2⟩:=UI;refine wpList_append_lies w hgd s x 39 ho base 3 i (.int .i64 0) 1 8 u_f hi hz0 hz1 hz2 rfl (by omega) v l.length (ints l) hs hown ⟨B,0,none⟩ 1 1 [.int .i64 t] hx rfl (fun j u hu=>?_) (by simp[Value.oneCell']) (by omega) (by unfold maxLen;omega) (by omega) hbase H hH ?_
 ·rw[Addr.add_lit,Nat.zero_add];cases j with
  |zero=>simp at hu;subst hu;exact hnews
  |succ j=>simp at hu
 ·intro g cap w' h1 h2 h3 h4;refine h g cap w' ?_ h2 h3 h4;unfold OwnL;rw[ints_append,List.length_append];exact h1
def TC (t:Nat) (L:List Value) (w:World):Prop:=∀k v,L[k]?=some v->w.cell? ⟨t,k,none⟩=some v/\w.frozen? ⟨t,k,none⟩=false
variable {L:List Value}{t:Nat}
theorem TC.block (h:TC t L w) (hb:w'.heap[t]?=w.heap[t]?):TC t L w':=fun k v hv=>by
 rw[World.cell?_of_block (w:=w) (a:=⟨t,k,none⟩) hb,World.frozen?_of_block (w:=w) (a:=⟨t,k,none⟩) hb];exact h k v hv
theorem TC.lt (h:TC t (v::L) w):t<w.heap.size:=World.block_lt_of_cell? w _ (h 0 v rfl).1
theorem TC.below (h:TC t (v::L) w) (hW:Below w.heap.size w w'):TC t (v::L) w':=h.block (hW.block t h.lt)
theorem TC.set (h:TC t L w) (q:Nat) (hq:q<L.length) (u:Value):TC t (L.set q u) (w.setCell ⟨t,q,none⟩ u):=fun k v hv=>by
 rw[World.frozen?_setCell];by_cases e:k=q
 ·subst e;rw[List.getElem?_set_self hq]at hv;obtain⟨h1,h2⟩:=h k L[k] (List.getElem?_eq_getElem hq);cases hv;exact⟨World.cell?_setCell_same w ⟨t,k,none⟩ u (by rw[h1]),h2⟩
 ·rw[List.getElem?_set_ne (fun x=>e x.symm)]at hv;obtain⟨h1,h2⟩:=h k v hv;exact⟨by rw[World.cell?_setCell_other _ _ _ _ (by intro he;cases he;exact e rfl)];exact h1,h2⟩
theorem TC.range (h:TC t L w):w.rangeAt t 0 L:=fun k v hv=>by rw[Nat.zero_add];exact(h k v hv).1
theorem TC.there (h:TC t L w):w.there t 0 L.length:=fun j hj=>by
 rw[Nat.zero_add];obtain⟨h1,h2⟩:=h j L[j] (List.getElem?_eq_getElem hj);exact⟨by rw[h1];rfl,h2⟩
theorem TC.boxed (w:World) (L:List Value) (ty:TypeId):TC w.heap.size L (w.alloc (.cells L.toArray ty)):=fun k v hv=>by
 refine⟨by rw[World.cell?_alloc_new];simpa using hv,?_⟩;go_simp
theorem box_bel (w:World) (o:Obj):Below w.heap.size w (w.alloc o):=(Below.refl _ _).alloc (Nat.le_refl _) o
variable {fn:Func}{p:Tmp}
theorem res_cell1 {ty:TypeId} (h:fn.results=#[.cell p ty]) (tmps:Array Value) (P:Program) (w:World):
  (results fn tmps).run P w=((asAddr (tmps.getD p undef)).run P w).andThen fun a w₁=>(loadVar ty a).run P w₁:=by
 simp only[results,h];simp[Sem.run_bind,Result.andThen]
variable {tmps:Array Value}{P:Program}
theorem res_load1 {ty:TypeId}{ad:Addr} (h:fn.results=#[.cell p ty]) (ht:tmps.getD p undef=.pointer (some ad)) (hl:(loadVar ty ad).run P w=.ok v w):
  (results fn tmps).run P w=.ok v w:=by
 rw[res_cell1 h,ht];simp[asAddr,hl]
end Bm
open Bm
end
section
open Go.RowKit
def Wr (b base:Nat) (l:List UInt8) (w:World):Prop:=
 b<base/\w.frozen? ⟨b,0,none⟩=false/\∃v,w.cell? ⟨b,0,none⟩=some v/\YN base v (Ot l) w
def Ws (b base:Nat) (w:World) (l:List UInt8) (e:Ending) (w':World):Prop:=e=.returned (.tuple #[])/\Wr b base l w'/\Below b w w'
theorem X6 (b base:Nat) (l:List UInt8) (x:Int) (w:World) (hb:base<=w.heap.size) (hl:l.length<=1000000) (h:Wr b base l w):
  Calls Tryz.prog 29 #[.pointer (some ⟨b,0,none⟩),.int .i64 x] w (Ws b base w (l++[YX x])):=by
 obtain⟨h0,h1,v,h2,h3⟩:=h;obtain⟨i,hi,hz0,hz1,hz2⟩:=Ls;have hG:=h3.alloc (.cells #[.int .u8 (x%256)] 5);have hnew:∀j u,[Value.int .u8 (x%256)][j]?=some u->(w.alloc (.cells #[.int .u8 (x%256)] 5)).cell? ⟨w.heap.size,j,none⟩=some u:=fun j u hu=>by
  rw[World.cell?_alloc_new];simpa using hu
 have hbl:b<w.heap.size:=World.block_lt_of_cell? w _ h2;have hne:some b≠v.ownBlock:=fun e=>by have:=h3.ge b e.symm;omega
 have hc0:(w.alloc (.cells #[.int .u8 (x%256)] 5)).cell? ⟨b,0,none⟩=some v:=by rw[World.cell?_alloc_lt _ _ _ (by exact hbl)];exact h2
 have hf0:(w.alloc (.cells #[.int .u8 (x%256)] 5)).frozen? ⟨b,0,none⟩=false:=by
  rw[World.frozen?_of_block (w:=w) (a:=⟨b,0,none⟩) (Below.heap_alloc w _ b hbl)];exact h1
 have hW:Below b w (w.alloc (.cells #[.int .u8 (x%256)] 5)):=(Below.refl _ _).alloc (by omega) _;go_enter Tryz.func29,Tryz.ntmps29;go_wp2_with (first|(at_builtin;refine Sh (by rfl) _ _ 68 5 (by rfl) i (.int .u8 0) 1 u_h hi hz0 hz1 hz2 rfl (by omega) base v (Ot l) (by rfl) hG w.heap.size 1 [.int .u8 (x%256)] (by rfl) rfl hnew (by simp[Value.oneCell']) (by rw[Ox];omega) (by simp;omega) (by omega) ?_;intro g cap w2 hG2 hgrow;have q1:=hgrow.cell hc0 hne;have q2:w2.frozen? ⟨b,0,none⟩=false:=(hgrow.frozen_far ⟨b,0,none⟩ (by simp;omega) hne).trans hf0));go_end0;refine⟨rfl,⟨h0,?_,.slice (some ⟨g,0,none⟩) ((Ot l).length+1) cap,?_,?_⟩,?_⟩
 ·rw[World.frozen?_setCell];exact q2
 ·exact World.cell?_setCell_same w2 ⟨b,0,none⟩ _ (by rw[q1])
 ·have he:Ot (l++[YX x])=Ot l++[.int .u8 (x%256)]:=by rw[L8];simp[Ot,Yj]
  rw[he];refine hG2.block (by simp[World.setCell]) (fun k _ hk=>Below.heap_setCell w2 ⟨b,0,none⟩ _ k (fun e=>?_));have:=hG2.ge k hk;have e':k=b:=e;omega
 ·refine(hW.grown hgrow (by simp;omega) (fun k hk=>by have:=h3.ge k hk;omega)).setCell (p:=⟨b,0,none⟩) (Nat.le_refl _) _
theorem Se (b base:Nat) (l:List UInt8) (x:Int) (w:World) (hb:base<=w.heap.size) (hl:l.length<=900000) (h:Wr b base l w):
  Calls Tryz.prog 30 #[.pointer (some ⟨b,0,none⟩),.int .i64 x] w (Ws b base w (l++[YX (x/256),YX x])):=by
 have H1:=hyd (X6 b base l (x/256) w hb (by omega) h);have H2:Hid (∀w',Wr b base (l++[YX (x/256)]) w'->base<=w'.heap.size->Calls Tryz.prog 29 #[.pointer (some ⟨b,0,none⟩),.int .i64 x] w' (Ws b base w' ((l++[YX (x/256)])++[YX x]))):=fun w' h' hb'=>X6 b base _ x w' hb' (by simp;omega) h'
 clear h;go_enter Tryz.func30,Tryz.ntmps30;go_wp2_with fail;refine H1.out.mono ?_;rintro e w1 ⟨rfl,h1,hW1⟩;go_wp2_with fail;refine(H2.out w1 h1 (Nat.le_trans hb hW1.size)).mono ?_;rintro e w2 ⟨rfl,h2,hW2⟩;go_wp2_with fail;go_end0;exact⟨rfl,by simpa using h2,hW1.trans hW2⟩
def X3 (f:Nat->Int) (n:Nat) (more:Int):List UInt8:=(List.range n).map fun i=>YX (f i+more)
theorem Px (f:Nat->Int) (n:Nat) (more:Int):X3 f (n+1) more=X3 f n more++[YX (f n+more)]:=by simp[X3,List.range_succ]
theorem XB (f:Nat->Int) (n:Nat) (more:Int):(X3 f n more).length=n:=by simp[X3]
def YC (f:Nat->Int) (n:Nat) (wide:Int):List UInt8:=(List.range n).flatMap fun i=>if wide=2 then [YX (f i/256),YX (f i)] else [YX (f i)]
theorem XZ (f:Nat->Int) (n:Nat) (wide:Int):YC f (n+1) wide=YC f n wide++(if wide=2 then [YX (f n/256),YX (f n)] else [YX (f n)]):=by simp[YC,List.range_succ]
theorem TE (f:Nat->Int) (wide:Int):∀n,(YC f n wide).length<=2*n
 |0=>by simp[YC]
 |n+1=>by
  rw[XZ,List.length_append];have:=TE f wide n;split<;>(simp;omega)
def Yl (f g:Nat->Int) (n:Nat):List UInt8:=(List.range n).flatMap fun i=>[YX (f i+1),YX (g i+1)]
theorem Wv (f g:Nat->Int) (n:Nat):Yl f g (n+1)=Yl f g n++[YX (f n+1),YX (g n+1)]:=by simp[Yl,List.range_succ]
theorem Xr (f g:Nat->Int):∀n,(Yl f g n).length=2*n
 |0=>by simp[Yl]
 |n+1=>by rw[Wv,List.length_append,Xr f g n];simp;omega
theorem UQ (b base:Nat) (l:List UInt8) (ad:Option Addr) (n cap:Nat) (f:Nat->Int) (more:Int) (w0 w:World) (hb:base<=w.heap.size) (hl:l.length+n<=900000) (hm:0<=more/\more<=1) (hf:∀i,i<n->-1<=f i/\f i<=1000000)
  (hb0:w0.heap.size<=b) (hI:IL ad f n w0) (hW0:Below w0.heap.size w0 w) (h:Wr b base l w):
  Calls Tryz.prog 31 #[.pointer (some ⟨b,0,none⟩),.slice ad n cap,.int .i64 more] w (Ws b base w (l++X3 f n more)):=by
 have HI:=hyd hI;have HF:=hyd hf;clear hI hf;go_enter Tryz.func31,Tryz.ntmps31;go_wp2_with fail
 go_loopw [10] (fun i w'=>∃k:Nat,k<=n/\i=.int .i64 k/\Wr b base (l++X3 f k more) w'/\Below b w w') (fun i _=>n-(intOf i).toNat)
 case atStart=>exact⟨0,by omega,rfl,by simpa[X3]using h,Below.refl _ _⟩
 case round=>
  obtain⟨k,hk,rfl,hWr,hW⟩:=hrel;by_cases hlt:k<n
  ·have hlt':(k:Int)<n:=by omega
   obtain⟨b1,o1,rfl,c1⟩:=HI.out.below (hW0.trans (hW.mono hb0)) k hlt;have hfk:=HF.out k hlt;have HP:Hid (Calls Tryz.prog 29 #[.pointer (some ⟨b,0,none⟩),.int .i64 (f k+more)] wr (Ws b base wr (l++X3 f (k+1) more))):=by
    have:=X6 b base (l++X3 f k more) (f k+more) wr (Nat.le_trans hb hW.size) (by rw[List.length_append,XB];omega) hWr;rw[List.append_assoc,<-Px]at this;exact this
   generalize f k=x at *;go_wp2_with fail;refine HP.out.mono ?_;rintro e w2 ⟨rfl,h2,hW2⟩;go_wp2_with fail;go_roundw
   case rel=>exact⟨k+1,by omega,by go_num,h2,hW.trans hW2⟩
   case measure=>simp[intOf];omega
  ·have hge:¬(k:Int)<n:=by omega
   have hkn:k=n:=by omega
   subst hkn;go_wp2_with fail;go_end0;exact⟨rfl,hWr,hW⟩
theorem OV (b base:Nat) (l:List UInt8) (ad:Option Addr) (n cap:Nat) (f:Nat->Int) (wide:Int) (w0 w:World) (hb:base<=w.heap.size) (hl:l.length+2*n<=900000)
  (hb0:w0.heap.size<=b) (hI:IL ad f n w0) (hW0:Below w0.heap.size w0 w) (h:Wr b base l w):
  Calls Tryz.prog 32 #[.pointer (some ⟨b,0,none⟩),.slice ad n cap,.int .i64 wide] w (Ws b base w (l++YC f n wide)):=by
 have HI:=hyd hI;clear hI;go_enter Tryz.func32,Tryz.ntmps32;go_wp2_with fail
 go_loopw [10] (fun i w'=>∃k:Nat,k<=n/\i=.int .i64 k/\Wr b base (l++YC f k wide) w'/\Below b w w') (fun i _=>n-(intOf i).toNat)
 case atStart=>exact⟨0,by omega,rfl,by simpa[YC]using h,Below.refl _ _⟩
 case round=>
  obtain⟨k,hk,rfl,hWr,hW⟩:=hrel;by_cases hlt:k<n
  ·have hlt':(k:Int)<n:=by omega
   obtain⟨b1,o1,rfl,c1⟩:=HI.out.below (hW0.trans (hW.mono hb0)) k hlt;have hlen:=TE f wide k;by_cases h2:wide=2
   ·have HP:Hid (Calls Tryz.prog 30 #[.pointer (some ⟨b,0,none⟩),.int .i64 (f k)] wr (Ws b base wr (l++YC f (k+1) wide))):=by
     have:=Se b base (l++YC f k wide) (f k) wr (Nat.le_trans hb hW.size) (by rw[List.length_append];omega) hWr;rw[List.append_assoc]at this;rw[XZ,if_pos h2];exact this
    subst h2;generalize f k=x at *;go_wp2_with fail;refine HP.out.mono ?_;rintro e w2 ⟨rfl,h2,hW2⟩;go_wp2_with fail;go_roundw
    case rel=>exact⟨k+1,by omega,by go_num,h2,hW.trans hW2⟩
    case measure=>simp[intOf];omega
   ·have HP:Hid (Calls Tryz.prog 29 #[.pointer (some ⟨b,0,none⟩),.int .i64 (f k)] wr (Ws b base wr (l++YC f (k+1) wide))):=by
     have:=X6 b base (l++YC f k wide) (f k) wr (Nat.le_trans hb hW.size) (by rw[List.length_append];omega) hWr;rw[List.append_assoc]at this;rw[XZ,if_neg h2];exact this
    have q1:(wide==2)=false:=by simpa using h2
    generalize f k=x at *;go_wp2_with fail;refine HP.out.mono ?_;rintro e w2 ⟨rfl,h2,hW2⟩;go_wp2_with fail;go_roundw
    case rel=>exact⟨k+1,by omega,by go_num,h2,hW.trans hW2⟩
    case measure=>simp[intOf];omega
  ·have hge:¬(k:Int)<n:=by omega
   have hkn:k=n:=by omega
   subst hkn;go_wp2_with fail;go_end0;exact⟨rfl,hWr,hW⟩
theorem OW (b base:Nat) (l:List UInt8) (ad ad':Option Addr) (n cap cap':Nat) (f f':Nat->Int) (w0 w:World) (hb:base<=w.heap.size) (hl:l.length+2*n<=900000) (hf:∀i,i<n->(-1<=f i/\f i<=1000000)/\(-1<=f' i/\f' i<=1000000))
  (hb0:w0.heap.size<=b) (hI:IL ad f n w0) (hI':IL ad' f' n w0) (hW0:Below w0.heap.size w0 w) (h:Wr b base l w):
  Calls Tryz.prog 33 #[.pointer (some ⟨b,0,none⟩),.slice ad n cap,.slice ad' n cap'] w (Ws b base w (l++Yl f f' n)):=by
 have HI:=hyd hI;have HI':=hyd hI';have HF:=hyd hf;clear hI hI' hf;go_enter Tryz.func33,Tryz.ntmps33;go_wp2_with fail
 go_loopw [10] (fun i w'=>∃k:Nat,k<=n/\i=.int .i64 k/\Wr b base (l++Yl f f' k) w'/\Below b w w') (fun i _=>n-(intOf i).toNat)
 case atStart=>exact⟨0,by omega,rfl,by simpa[Yl]using h,Below.refl _ _⟩
 case round=>
  obtain⟨k,hk,rfl,hWr,hW⟩:=hrel;by_cases hlt:k<n
  ·have hlt':(k:Int)<n:=by omega
   obtain⟨b1,o1,rfl,c1⟩:=HI.out.below (hW0.trans (hW.mono hb0)) k hlt;have hfk:=HF.out k hlt;have hlen:=Xr f f' k;have HP:Hid (Calls Tryz.prog 29 #[.pointer (some ⟨b,0,none⟩),.int .i64 (f k+1)] wr (Ws b base wr (l++Yl f f' k++[YX (f k+1)]))):=
    X6 b base (l++Yl f f' k) (f k+1) wr (Nat.le_trans hb hW.size) (by rw[List.length_append];omega) hWr
   have HP2:Hid (∀w',Wr b base (l++Yl f f' k++[YX (f k+1)]) w'->base<=w'.heap.size->Calls Tryz.prog 29 #[.pointer (some ⟨b,0,none⟩),.int .i64 (f' k+1)] w' (Ws b base w' (l++Yl f f' (k+1)))):=fun w' h' hb'=>by
    have:=X6 b base (l++Yl f f' k++[YX (f k+1)]) (f' k+1) w' hb' (by simp only[List.length_append,List.length_cons,List.length_nil];omega) h';rw[List.append_assoc,List.append_assoc]at this;rw[Wv];exact this
   have HC:Hid (∀w',Below b wr w'->∃b2 o2,ad'=some ⟨b2,o2,none⟩/\w'.cell? ⟨b2,o2+k,none⟩=some (.int .i64 (f' k))):=fun w' h'=>HI'.out.below (hW0.trans ((hW.trans h').mono hb0)) k hlt
   generalize f k=x at *;generalize f' k=x' at *;go_wp2_with fail;refine HP.out.mono ?_;rintro e w2 ⟨rfl,h2,hW2⟩;obtain⟨b2,o2,rfl,c2⟩:=HC.out w2 hW2;go_wp2_with fail;refine(HP2.out w2 h2 (Nat.le_trans (Nat.le_trans hb hW.size) hW2.size)).mono ?_;rintro e w3 ⟨rfl,h3,hW3⟩;go_wp2_with fail;go_roundw
   case rel=>exact⟨k+1,by omega,by go_num,h3,(hW.trans hW2).trans hW3⟩
   case measure=>simp[intOf];omega
  ·have hge:¬(k:Int)<n:=by omega
   have hkn:k=n:=by omega
   subst hkn;go_wp2_with fail;go_end0;exact⟨rfl,hWr,hW⟩
def YJ (f:Nat->Int):Nat->Int
 |0=>1
 |k+1=>if 255<f k then 2 else YJ f k
theorem Wm (f:Nat->Int):∀k,YJ f k=1\/YJ f k=2
 |0=>Or.inl rfl
 |k+1=>by rw[YJ];split;exact Or.inr rfl;exact Wm f k
variable {b base k n:Nat}{f:Nat->Int}{w w':World}
theorem Rm (h:YJ f k=2):∀d,YJ f (k+d)=2
 |0=>h
 |d+1=>by rw[<-Nat.add_assoc,YJ,Rm h d];split<;>rfl
def WT (T:Tb):List UInt8:=
 [77,85,78,49]++[YX T.rules,YX ((VH T.cl T.ncl:Int)-1),YX T.nlb,YX ((T.nck:Int)/256),YX T.nck,YX (YJ T.bs T.nbs)] ++
  X3 T.cl T.ncl 0++X3 T.lb T.nlb 1++YC T.bs T.nbs (YJ T.bs T.nbs)++X3 T.df T.ndf 1++Yl T.ck T.nx T.nck
def Yb (T:Tb):List UInt8:=WT T++Vt (WT T)
theorem Kh (a b:List UInt8):(⟨(a++b).toArray⟩:ByteArray)=⟨a.toArray⟩++⟨b.toArray⟩:=by
 apply ByteArray.ext;simp
def GL (T:Tb) (w:World) (e:Ending) (w':World):Prop:=
 Below w.heap.size w w'/\((SG T/\e=.returned (.tuple #[.string ⟨(Yb T).toArray⟩,.int .i64 0]))\/(¬SG T/\e=.returned (.tuple #[.string ⟨#[]⟩,.int .i64 11])))
theorem Ol (ad:Option Addr) (n cap:Nat) (f:Nat->Int) (w:World) (hn:n<=maxLen) (h:IL ad f n w):
  Calls Tryz.prog 28 #[.slice ad n cap] w fun e w'=>e=.returned (.int .i64 (YJ f n))/\w'=w:=by
 unfold maxLen at hn;have H:=hyd h;clear h;go_enter Tryz.func28,Tryz.ntmps28;go_wp2_with fail
 go_loop [7] (fun i=>∃k:Nat,k<=n/\i=.int .i64 k/\Hid (YJ f k=1)) (fun i=>n-(intOf i).toNat)
 case atStart=>exact⟨0,by omega,rfl,rfl⟩
 case round=>
  obtain⟨k,hk,rfl,HK⟩:=hrel;by_cases hlt:k<n
  ·have hlt':(k:Int)<n:=by omega
   obtain⟨b,off,rfl,c1⟩:=H.out k hlt;by_cases h1:255<f k
   ·have HW:Hid (YJ f n=2):=by
     have:YJ f (k+1)=2:=by rw[YJ,if_pos h1]
     have:=Rm this (n-(k+1));rw[show k+1+(n-(k+1))=n by omega]at this;exact this
    go_wp2_with fail;go_ret;exact⟨YS HW.out.symm,rfl⟩
   ·have HW:Hid (YJ f (k+1)=1):=by show _=_;rw[YJ,if_neg h1];exact HK.out
    go_wp2_with fail
    go_round
    case rel=>exact⟨k+1,by omega,by go_num,HW.out⟩
    case measure=>simp[intOf];omega
  ·have hge:¬(k:Int)<n:=by omega
   have hkn:k=n:=by omega
   subst hkn;go_wp2_with fail;go_ret;exact⟨YS HK.out.symm,rfl⟩
theorem YN.magic (base:Nat) (w:World) (hb:base<=w.heap.size):YN base (.slice (some ⟨w.heap.size,0,none⟩) 4 4) (Ot [77,85,78,49]) (w.alloc (.cells #[.int .u8 77,.int .u8 85,.int .u8 78,.int .u8 49] 5 (4,5))):=by
 refine Or.inr ⟨w.heap.size,4,rfl,hb,by simp,by simp[Ot],fun j u hu=>?_,fun j hj=>?_⟩
 ·rw[World.cell?_alloc_mark];simpa[Ot]using hu
 ·rw[World.cell?_alloc_mark];refine⟨by rcases j with _|_|_|_|j<;>first|rfl|omega,?_⟩;have:(w.alloc (.cells #[.int .u8 77,.int .u8 85,.int .u8 78,.int .u8 49] 5 (4,5))).heap[w.heap.size]?=some (.cells #[.int .u8 77,.int .u8 85,.int .u8 78,.int .u8 49] 5 (4,5)):=heap_alloc_new w _;generalize w.alloc (.cells #[.int .u8 77,.int .u8 85,.int .u8 78,.int .u8 49] 5 (4,5))=W at *;simp[World.frozen?,this];omega
theorem RR:∀ {k n:Nat},Yz f k=some n->∀i,i<k->0<=f i/\f i<k
 |0,_,_,i,hi=>by omega
 |k+1,n,h,i,hi=>by
  rw[Yz]at h;rcases hc:Yz f k with _|m
  ·rw[hc]at h;cases h
  ·have hm:=ST hc;rw[hc]at h;simp only at h;split at h
   ·cases h
   ·rename_i hh;by_cases e:i=k
    ·subst e;omega
    ·have:=RR hc i (by omega);omega
theorem Kj (h:0<VH f n) (i:Nat) (hi:i<n):0<=f i/\f i<256:=by
 unfold VH at h;split at h
 ·rename_i h256;rcases hc:Yz f 256 with _|m
  ·rw[hc]at h;simp at h
  ·exact RR hc i (by omega)
 ·omega
theorem Wr.heap {l:List UInt8} (h:Wr b base l w) (hw:w'.heap=w.heap):Wr b base l w':=by
 obtain⟨h0,h1,v,h2,h3⟩:=h;refine⟨h0,?_,v,?_,h3.block (by rw[hw];exact Nat.le_refl _) (fun k _ _=>by rw[hw])⟩
 ·rw[World.frozen?_of_block (w:=w) (a:=⟨b,0,none⟩) (by rw[hw])];exact h1
 ·rw[World.cell?_of_block (w:=w) (a:=⟨b,0,none⟩) (by rw[hw])];exact h2
theorem UZ (b:Nat) (T:Tb) (A:T8) (w:World) (hs:J1 T) (h:Xa b T A w) (hI:Vj T A w):
  Calls Tryz.prog 12 #[.pointer (some ⟨b,0,none⟩)] w (GL T w):=by
 have HS:=hyd (Pb b T A w hs h hI);have m1:T.ncl<=maxLen:=by have:=hs.s1;unfold maxLen;omega
 have m3:T.nbs<=maxLen:=by have:=hs.s3;unfold maxLen;omega
 have HI:Hid (∀w',Below w.heap.size w w'->Vj T A w'):=fun w' hW=>hI.below hW
 have HAt:Hid (∀w',Below w.heap.size w w'->Xa b T A w'):=fun w' hW=>h.below hW
 have hbl:=h.lt;clear hI h;go_enter Tryz.func12,Tryz.ntmps12;go_wp2_with fail;refine HS.out.mono ?_;rintro e w1 ⟨bb,rfl,hbb,hW1⟩;clear HS;cases bb
 ·have HN:Hid (¬SG T):=fun h=>by have:=hbb.2 h;cases this
  clear hbb;go_wp2_with fail;go_ret2;exact⟨hW1,Or.inr ⟨HN.out,rfl⟩⟩
 have hS:=hbb.1 rfl;clear hbb;have HSn:=hyd hS;have hc0:=hS.hd.2.2.1;have hc1:=QC T.cl T.ncl;have hr:=hS.hd.1;have hl:=hS.hd.2.1;have e3:=hS.e3;have e4:=hS.e4;have e6:=hS.e6;have e5:=hS.e5;have hncl:T.ncl=256:=by
  rcases Nat.decEq T.ncl 256 with h|h
  ·simp[VH,h]at hc0
  ·exact h
 have F1:Hid (Calls Tryz.prog 28 #[.slice A.a3 T.nbs A.c3] w1 fun e w'=>e=.returned (.int .i64 (YJ T.bs T.nbs))/\w'=w1):=Ol _ _ _ _ _ m3 (HI.out w1 hW1).l3;have F2:Hid (Calls Tryz.prog 22 #[.slice A.a1 T.ncl A.c1] w1 fun e w'=>e=.returned (.int .i64 (VH T.cl T.ncl))/\w'=w1):=XC _ _ _ _ _ m1 (HI.out w1 hW1).l1;have kc:(convert 68 68 (.slice (some ⟨w1.heap.size+1,0,none⟩) 4 4)).run Tryz.prog ((w1.alloc (.cells #[.slice none 0 0] 95)).alloc (.cells #[.int .u8 77,.int .u8 85,.int .u8 78,.int .u8 49] 5))=.ok (.slice (some ⟨w1.heap.size+1,0,none⟩) 4 4) ((w1.alloc (.cells #[.slice none 0 0] 95)).alloc (.cells #[.int .u8 77,.int .u8 85,.int .u8 78,.int .u8 49] 5 (4,5))):=by
  have:=Lib.run_convert_bytes_const (P:=Tryz.prog) (w1.alloc (.cells #[.slice none 0 0] 95)) 68 5 #[.int .u8 77,.int .u8 85,.int .u8 78,.int .u8 49] 4 4 u_h u_o;have hsz:(w1.alloc (.cells #[.slice none 0 0] 95)).heap.size=w1.heap.size+1:=by simp
  rw[hsz]at this;exact this
 have hbW1:=Nat.lt_of_lt_of_le hbl hW1.size;obtain⟨bw,hbw⟩:=nam w1.heap.size;obtain⟨W,hWeq⟩:=nam (((w1.alloc (.cells #[.slice none 0 0] 95)).alloc (.cells #[.int .u8 77,.int .u8 85,.int .u8 78,.int .u8 49] 5 (4,5))));rw[<-hWeq]at kc;have hsz1:(w1.alloc (.cells #[.slice none 0 0] 95)).heap.size=w1.heap.size+1:=by simp
 have hWsz:W.heap.size=w1.heap.size+2:=by rw[hWeq];simp
 have hcW:W.cell? ⟨w1.heap.size,0,none⟩=some (.slice none 0 0):=by
  rw[hWeq,World.cell?_alloc_lt _ _ _ (by rw[hsz1];exact Nat.lt_succ_self _),World.cell?_alloc_new];rfl
 have hfW:W.frozen? ⟨w1.heap.size,0,none⟩=false:=by
  rw[hWeq,World.frozen?_of_block (w:=w1.alloc (.cells #[.slice none 0 0] 95)) (a:=⟨w1.heap.size,0,none⟩) (Below.heap_alloc _ _ _ (by rw[hsz1];exact Nat.lt_succ_self _))];go_simp
 have hB1W:Below w1.heap.size w1 W:=by
  rw[hWeq];exact((Below.refl _ _).alloc (Nat.le_refl _) _).alloc (by rw[hsz1];omega) _
 have hGW:YN (w1.heap.size+1) (.slice (some ⟨w1.heap.size+1,0,none⟩) 4 4) (Ot [77,85,78,49]) W:=by
  have:=YN.magic (w1.heap.size+1) (w1.alloc (.cells #[.slice none 0 0] 95)) (by rw[hsz1];exact Nat.le_refl _);rw[hsz1,<-hWeq]at this;exact this
 clear hWeq hsz1;have hBW:=hW1.trans (hB1W.mono hW1.size);have hW2:Below w.heap.size w (W.setCell ⟨w1.heap.size,0,none⟩ (.slice (some ⟨w1.heap.size+1,0,none⟩) 4 4)):=hBW.setCell (p:=⟨w1.heap.size,0,none⟩) hW1.size _;have hWr:Wr w1.heap.size (w1.heap.size+1) [77,85,78,49] (W.setCell ⟨w1.heap.size,0,none⟩ (.slice (some ⟨w1.heap.size+1,0,none⟩) 4 4)):=
  ⟨Nat.lt_succ_self _,by rw[World.frozen?_setCell];exact hfW,_,World.cell?_setCell_same W ⟨w1.heap.size,0,none⟩ _ (by rw[hcW]),hGW.block (by simp[World.setCell]) (fun k _ hk=>Below.heap_setCell W ⟨w1.heap.size,0,none⟩ _ k (fun e=>by have:=hGW.ge k hk;have e':k=w1.heap.size:=e;omega))⟩
 obtain⟨d0,d1,d2,d3,d4,d5,d6⟩:=HAt.out w1 hW1;have f0:=(HAt.out W hBW).c0;have hne:b≠w1.heap.size:=by omega
 have Hnum:Hid ((0<VH T.cl T.ncl/\VH T.cl T.ncl<=256)/\(1<=T.rules/\T.rules<=8)/\(1<=T.nlb/\T.nlb<=96)/\T.nbs=T.nlb/\T.ndf=T.nlb/\T.nnx=T.nck/\T.nck<=24576/\T.ncl=256):=⟨⟨hc0,hc1⟩,hr,hl,e3,e4,e6,e5,hncl⟩;have HWr:=hyd hWr;have HW2:=hyd hW2;clear hS e3 e4 e6 e5 hncl hGW hB1W hBW hW2 hWr hbw hc0 hc1 hr hl;go_wp2_with fail;refine F1.out.mono ?_;rintro e w1 ⟨rfl,rfl⟩;go_wp2_with fail;refine F2.out.mono ?_;rintro e w1 ⟨rfl,rfl⟩;clear F1 F2;go_wp2_with fail;have hsz:w1.heap.size+1<=(W.setCell ⟨w1.heap.size,0,none⟩ (.slice (some ⟨w1.heap.size+1,0,none⟩) 4 4)).heap.size:=by simp[World.setCell,hWsz]
 have hwb:=hW1.size;clear d0 d1 d2 d3 d4 d5 d6 f0 hcW hfW hWsz kc hW1 hbW1 hne;generalize W.setCell ⟨w1.heap.size,0,none⟩ (.slice (some ⟨w1.heap.size+1,0,none⟩) 4 4)=W2 at *;generalize w1.heap.size=bw at *;have HIw:=hyd (HI.out w (Below.refl _ _));have HR1:Hid (∀i,i<T.ncl->-1<=T.cl i/\T.cl i<=1000000):=fun i hi=>by have:=Kj Hnum.out.1.1 i hi;omega
 have HR2:Hid (∀i,i<T.nlb->-1<=T.lb i/\T.lb i<=1000000):=fun i hi=>by have h1:=HSn.out.hd.2.2.2 i hi;have h2:=Hnum.out.2.1;omega
 have HR4:Hid (∀i,i<T.ndf->-1<=T.df i/\T.df i<=1000000):=fun i hi=>by have h0:=Hnum.out;have h1:=HSn.out.b4 i (by omega);omega
 have HR5:Hid (∀i,i<T.nck->(-1<=T.ck i/\T.ck i<=1000000)/\(-1<=T.nx i/\T.nx i<=1000000)):=fun i hi=>by
  have h0:=Hnum.out;rcases HSn.out.cs i hi with h|h
  ·omega
  ·omega
 obtain⟨⟨nc0,nc1⟩,⟨nr0,nr1⟩,⟨nl0,nl1⟩,n3,n4,n6,n5,n1⟩:=Hnum.out;have N3:=hyd n3;have N4:=hyd n4;have N6:=hyd n6;have N1:=hyd n1;clear n3 n4 n6 n1;have hbas:=TE T.bs (YJ T.bs T.nbs) T.nbs;refine Calls.mono (X6 bw (bw+1) [77,85,78,49] T.rules W2 hsz (by simp) HWr.out) ?_;rintro e w3 ⟨rfl,h3,hB3⟩;have hW3:=HW2.out.trans (hB3.mono hwb);have hs3:=Nat.le_trans hsz hB3.size;have HWr3:=hyd h3;clear h3 hB3 HW2 HWr hsz;go_wp2_with fail;refine Calls.mono (X6 bw (bw+1) _ ((VH T.cl T.ncl:Int)-1) w3 hs3 (by simp) HWr3.out) ?_;rintro e w4 ⟨rfl,h4,hB4⟩;have hW4:=hW3.trans (hB4.mono hwb);have hs4:=Nat.le_trans hs3 hB4.size;have d4:=(HAt.out w4 hW4).c2;have HWr4:=hyd h4;clear h4 hB4 hW3 HWr3 hs3;go_wp2_with fail;refine Calls.mono (X6 bw (bw+1) _ (T.nlb:Int) w4 hs4 (by simp) HWr4.out) ?_;rintro e w5 ⟨rfl,h5,hB5⟩;have hW5:=hW4.trans (hB5.mono hwb);have hs5:=Nat.le_trans hs4 hB5.size;have d5:=(HAt.out w5 hW5).c5;have HWr5:=hyd h5;clear h5 hB5 hW4 HWr4 hs4 d4;go_wp2_with fail;refine Calls.mono (Se bw (bw+1) _ (T.nck:Int) w5 hs5 (by simp) HWr5.out) ?_;rintro e w6 ⟨rfl,h6,hB6⟩;have hW6:=hW5.trans (hB6.mono hwb);have hs6:=Nat.le_trans hs5 hB6.size;have HWr6:=hyd h6;clear h6 hB6 hW5 HWr5 hs5 d5;go_wp2_with fail;refine Calls.mono (X6 bw (bw+1) _ (YJ T.bs T.nbs) w6 hs6 (by simp) HWr6.out) ?_;rintro e w7 ⟨rfl,h7,hB7⟩;have hW7:=hW6.trans (hB7.mono hwb);have hs7:=Nat.le_trans hs6 hB7.size;have d7:=(HAt.out w7 hW7).c1;have HE7:Hid ((((([77,85,78,49]++[YX T.rules])++[YX ((VH T.cl T.ncl:Int)-1)])++[YX T.nlb])++[YX ((T.nck:Int)/256),YX T.nck])++[YX (YJ T.bs T.nbs)]=[77,85,78,49]++[YX T.rules,YX ((VH T.cl T.ncl:Int)-1),YX T.nlb,YX ((T.nck:Int)/256),YX T.nck,YX (YJ T.bs T.nbs)]):=by show _=_;simp
 rw[HE7.out]at h7;generalize hH:([77,85,78,49]++[YX T.rules,YX ((VH T.cl T.ncl:Int)-1),YX T.nlb,YX ((T.nck:Int)/256),YX T.nck,YX (YJ T.bs T.nbs)]:List UInt8)=HD at h7;have hHl:HD.length=10:=by rw[<-hH];rfl
 have HH:Hid (WT T=((((HD++X3 T.cl T.ncl 0)++X3 T.lb T.nlb 1)++YC T.bs T.nbs (YJ T.bs T.nbs))++X3 T.df T.ndf 1)++Yl T.ck T.nx T.nck):=by show _=_;rw[<-hH];rfl
 have HWr7:=hyd h7;clear h7 hB7 hW6 HWr6 hs6 HE7 hH;go_wp2_with fail;refine Calls.mono (UQ bw (bw+1) HD A.a1 T.ncl A.c1 T.cl 0 w w7 hs7 (by have:=N1.out;omega) (by omega) HR1.out hwb HIw.out.l1 hW7 HWr7.out) ?_;rintro e w8 ⟨rfl,h8,hB8⟩;have hW8:=hW7.trans (hB8.mono hwb);have hs8:=Nat.le_trans hs7 hB8.size;have d8:=(HAt.out w8 hW8).c2;have HWr8:=hyd h8;clear h8 hB8 hW7 HWr7 hs7 d7;go_wp2_with fail;refine Calls.mono (UQ bw (bw+1) _ A.a2 T.nlb A.c2 T.lb 1 w w8 hs8 (by have:=N1.out;rw[List.length_append,XB];omega) (by omega) HR2.out hwb HIw.out.l2 hW8 HWr8.out) ?_;rintro e w9 ⟨rfl,h9,hB9⟩;have hW9:=hW8.trans (hB9.mono hwb);have hs9:=Nat.le_trans hs8 hB9.size;have d9:=(HAt.out w9 hW9).c3;have HWr9:=hyd h9;clear h9 hB9 hW8 HWr8 hs8 d8;go_wp2_with fail;refine Calls.mono (OV bw (bw+1) _ A.a3 T.nbs A.c3 T.bs (YJ T.bs T.nbs) w w9 hs9 (by have:=N1.out;have:=N3.out;simp only[List.length_append,XB];omega) hwb HIw.out.l3 hW9 HWr9.out) ?_;rintro e w10 ⟨rfl,h10,hB10⟩;have hW10:=hW9.trans (hB10.mono hwb);have hs10:=Nat.le_trans hs9 hB10.size;have d10:=(HAt.out w10 hW10).c4;have HWr10:=hyd h10;clear h10 hB10 hW9 HWr9 hs9 d9;go_wp2_with fail;refine Calls.mono (UQ bw (bw+1) _ A.a4 T.ndf A.c4 T.df 1 w w10 hs10 (by have:=N1.out;have:=N3.out;have:=N4.out;simp only[List.length_append,XB];omega) (by omega) HR4.out hwb HIw.out.l4 hW10 HWr10.out) ?_;rintro e w11 ⟨rfl,h11,hB11⟩;have hW11:=hW10.trans (hB11.mono hwb);have hs11:=Nat.le_trans hs10 hB11.size;have d11:=(HAt.out w11 hW11).c5;have d12:=(HAt.out w11 hW11).c6;have HWr11:=hyd h11;clear h11 hB11 hW10 HWr10 hs10 d10;have HPC:Hid (∀w',w'.heap=w11.heap->Below w.heap.size w w'->Calls Tryz.prog 33 #[.pointer (some ⟨bw,0,none⟩),.slice A.a5 T.nck A.c5,.slice A.a6 T.nnx A.c6] w' (Ws bw (bw+1) w' (WT T))):=fun w' hw hWw=>by
  rw[HH.out,N6.out];exact OW bw (bw+1) _ A.a5 A.a6 T.nck A.c5 A.c6 T.ck T.nx w w' (by rw[hw];exact hs11) (by have:=N1.out;have:=N3.out;have:=N4.out;simp only[List.length_append,XB];omega) HR5.out hwb HIw.out.l5 (by rw[<-N6.out];exact HIw.out.l6) hWw (HWr11.out.heap hw)
 go_wp2_with fail
 go_region_with ((go_at_call 33;refine Calls.mono (HPC.out _ rfl hW11.drew) ?_;rintro e w12 ⟨rfl,h12,hB12⟩))
 all_goals
  have hW12:=hW11.drew.trans (hB12.mono hwb);have hbodl:(WT T).length<=1000000:=by
   have:=N1.out;have:=N3.out;have:=N4.out;rw[HH.out];simp only[List.length_append,XB,Xr];omega
  have hbod0:0<(WT T).length:=by rw[HH.out];simp only[List.length_append];omega
  obtain⟨_,q1,v,q2,q3⟩:=h12;clear hB12 HPC HWr11 HH hs11 d11 d12 hW11 hbas HR1 HR2 HR4 HR5 HIw;generalize hbody:WT T=body at *;have HF:Hid (Yb T=body++Vt body):=by show _=_;rw[Yb,hbody]
  clear hbody;rcases q3 with ⟨_,h⟩|⟨g,cap,rfl,_,_,_,q4,_⟩
  ·have:(Ot body).length=0:=by rw[h];rfl
   rw[Ox]at this;omega
  rw[Ox]at q2;obtain⟨s1,hs1⟩:∃s1:ByteArray,s1=⟨body.toArray⟩:=⟨_,rfl⟩;obtain⟨s2,hs2⟩:∃s2:ByteArray,s2=⟨(Vt body).toArray⟩:=⟨_,rfl⟩;have z1:s1.size<=1000000:=by rw[hs1];simpa[ByteArray.size]using hbodl
  have z2:s2.size=4:=by rw[hs2];rfl
  have hconv:(convert 68 9 (.slice (some ⟨g,0,none⟩) body.length cap)).run Tryz.prog w12=.ok (.string s1) w12:=by
   rw[hs1];exact run_convert_bytes_back (P:=Tryz.prog) w12 68 9 5 ⟨g,0,none⟩ cap body u_h u_o u_i (fun j hj=>by
    rw[Addr.add_lit,Nat.zero_add];exact q4 j _ (by simp[Ot,hj]))
  have HSl:Hid (Calls Tryz.prog 34 #[.string s1] w12 fun e w'=>e=.returned (.string s2)/\Below w12.heap.size w12 w'):=by
   have h:=Oa s1 w12 z1;rw[show Vt s1.data.toList=Vt body by rw[hs1],<-hs2]at h;exact h
  have HFF:Hid ((⟨(Yb T).toArray⟩:ByteArray)=s1++s2):=by
   show _=_;rw[HF.out,hs1,hs2];exact Kh _ _
  clear q4 hs1 hs2 HF;go_wp2_with fail;refine HSl.out.mono ?_;rintro e w13 ⟨rfl,hW13⟩;go_wp2_with fail;go_ret2;refine⟨hW12.trans (hW13.mono hW12.size),Or.inl ⟨HSn.out,?_⟩⟩;rw[HFF.out];rfl
end
end Go.Proofs.YtoaaklhpmhjhkabGreat
