import Derived.Deep.AppendLies
import Derived.Test.YtoaaklhpmhjhkabC02
set_option maxRecDepth 100000
set_option maxHeartbeats 4000000
set_option linter.all false
namespace Go.Proofs.Ytoaaklhpmhjhkab
open Go.RowKit
namespace Bm
def ints (l:List Int):List Value:=l.map fun x=>.int .i64 x
theorem ints_append (a b:List Int):ints (a++b)=ints a++ints b:=by simp[ints]
def OwnL (base:Nat) (v:Value) (l:List Int) (w:World):Prop:=w.ownsRow base 3 1 v l.length (ints l)
theorem OwnL.nil (base:Nat) (w:World):OwnL base (.slice none 0 0) [] w:=⟨rfl,Or.inl ⟨rfl,rfl⟩⟩
variable {base : Nat}{v : Value}{w : World}
theorem OwnL.blk {l:List Int} (h:OwnL base v l w):∀k,v.ownBlock=some k->base<=k/\k<w.heap.size:=fun k hk=>h.lt k hk
variable {w' : World}
theorem OwnL.keep {l:List Int} (h:OwnL base v l w) (hk:∀k,v.ownBlock=some k->w'.heap[k]?=w.heap[k]?):OwnL base v l w':=by
 refine⟨h.1,?_⟩;rcases h.2 with h0|⟨g,cap,cur,rfl,h1,h2,h3⟩
 ·exact Or.inl h0
 ·exact Or.inr ⟨g,cap,cur,rfl,h1,by rw[hk g rfl];exact h2,h3⟩
theorem OwnL.below {l:List Int} (h:OwnL base v l w) (hW:Below w.heap.size w w'):OwnL base v l w':=h.keep (fun k hk=>hW.block k (h.blk k hk).2)
variable {base' : Nat}
theorem OwnL.mono {l:List Int} (h:OwnL base v l w) (hb:base'<=base):OwnL base' v l w:=
 ⟨h.1,h.2.imp id (fun⟨g,cap,cur,a,b,c⟩=>⟨g,cap,cur,a,Nat.le_trans hb b,c⟩)⟩
variable {row : Option Nat}
theorem OwnL.grown {l:List Int} (h:OwnL base v l w) (hg:w.grownBy w' row) (hne:∀k,v.ownBlock=some k->row≠some k):OwnL base v l w':=
 h.keep (fun k hk=>hg.block k (h.blk k hk).2 (fun e=>hne k hk e.symm))
theorem OwnL.il {l:List Int} (h:OwnL base v l w):∃ad cap,v=.slice ad l.length cap/\IL ad (fun i=>l.getD i 0) l.length w:=by
 rcases h.2 with ⟨rfl,h0⟩|⟨g,cap,cur,rfl,h1,h2,h3,h4,h5,h6⟩
 ·refine⟨none,0,by rw[h0],fun i hi=>by omega⟩
 ·refine⟨some ⟨g,0,none⟩,cap,rfl,fun i hi=>⟨g,0,rfl,?_⟩⟩;have hx:=h.cells (g:=g) rfl i (.int .i64 (l.getD i 0)) (by simp[ints,List.getD_eq_getElem?_getD,hi]);rw[Addr.add_lit]at hx;exact hx
variable {a : Act}{ops : Array Oper}{Q : Exit → Act → World → Prop}{rest : List Oper}{o : Oper}
theorem wpList_append_int (hgd:o.guard=none) (s x:Operand)
  (ho:o.op=.call { callee:=.builtin .append,args:=#[s,x],argTypes:=#[22,22] }) (base:Nat)
  (v:Value) (l:List Int) (hs:a.eval s=v) (hown:OwnL base v l w) (hn:l.length<=1000000)
  (B:Nat) (t:Int) (hx:a.eval x=.slice (some ⟨B,0,none⟩) 1 1) (hnews:w.cell? ⟨B,0,none⟩=some (.int .i64 t)) (hbase:base<=w.heap.size) (H:Nat) (hH:w.heap.size=H)
  (h:∀g cap w',OwnL base (.slice (some ⟨g,0,none⟩) (l.length+1) cap) (l++[t]) w'->w.grownBy w' v.ownBlock->(v.ownBlock=some g\/g=H)->g<w'.heap.size->wpList Try.prog ops Q rest (a.put o.dst (.slice (some ⟨g,0,none⟩) (l.length+1) cap)) w'):wpList Try.prog ops Q (o::rest) a w:=by
 obtain⟨i,hi,hz0,hz1,hz2⟩:=Qx;refine wpList_append_lies w hgd s x 22 ho base 3 i (.int .i64 0) 1 8 Try.underlying22 hi hz0 hz1 hz2 rfl (by omega) v l.length (ints l) hs hown ⟨B,0,none⟩ 1 1 [.int .i64 t] hx rfl (fun j u hu=>?_) (by simp[Value.oneCell']) (by omega) (by unfold maxLen;omega) (by omega) hbase H hH ?_
 ·rw[Addr.add_lit,Nat.zero_add];cases j with
  |zero=>simp at hu;subst hu;exact hnews
  |succ j=>simp at hu
 ·intro g cap w' h1 h2 h3 h4;refine h g cap w' ?_ h2 h3 h4;unfold OwnL;rw[ints_append,List.length_append];exact h1
def TC (t:Nat) (L:List Value) (w:World):Prop:=∀k v,L[k]?=some v->w.cell? ⟨t,k,none⟩=some v/\w.frozen? ⟨t,k,none⟩=false
variable {L : List Value}
theorem TC.block {t:Nat} (h:TC t L w) (hb:w'.heap[t]?=w.heap[t]?):TC t L w':=fun k v hv=>by
 rw[World.cell?_of_block (w:=w) (a:=⟨t,k,none⟩) hb,World.frozen?_of_block (w:=w) (a:=⟨t,k,none⟩) hb];exact h k v hv
theorem TC.lt {t:Nat} (h:TC t (v::L) w):t<w.heap.size:=World.block_lt_of_cell? w _ (h 0 v rfl).1
theorem TC.below {t:Nat} (h:TC t (v::L) w) (hW:Below w.heap.size w w'):TC t (v::L) w':=h.block (hW.block t h.lt)
theorem TC.set {t:Nat} (h:TC t L w) (q:Nat) (hq:q<L.length) (u:Value):TC t (L.set q u) (w.setCell ⟨t,q,none⟩ u):=fun k v hv=>by
 rw[World.frozen?_setCell];by_cases e:k=q
 ·subst e;rw[List.getElem?_set_self hq]at hv;obtain⟨h1,h2⟩:=h k L[k] (List.getElem?_eq_getElem hq);cases hv;exact⟨World.cell?_setCell_same w ⟨t,k,none⟩ u (by rw[h1]),h2⟩
 ·rw[List.getElem?_set_ne (fun x=>e x.symm)]at hv;obtain⟨h1,h2⟩:=h k v hv;exact⟨by rw[World.cell?_setCell_other _ _ _ _ (by intro he;cases he;exact e rfl)];exact h1,h2⟩
theorem TC.range {t:Nat} (h:TC t L w):w.rangeAt t 0 L:=fun k v hv=>by rw[Nat.zero_add];exact(h k v hv).1
theorem TC.there {t:Nat} (h:TC t L w):w.there t 0 L.length:=fun j hj=>by
 rw[Nat.zero_add];obtain⟨h1,h2⟩:=h j L[j] (List.getElem?_eq_getElem hj);exact⟨by rw[h1];rfl,h2⟩
theorem TC.boxed (w:World) (L:List Value) (ty:TypeId):TC w.heap.size L (w.alloc (.cells L.toArray ty)):=fun k v hv=>by
 refine⟨by rw[World.cell?_alloc_new];simpa using hv,?_⟩;go_simp
theorem box_bel (w:World) (o:Obj):Below w.heap.size w (w.alloc o):=(Below.refl _ _).alloc (Nat.le_refl _) o
variable {fn : Func}
theorem res_cell1 {p:Tmp}{ty:TypeId} (h:fn.results=#[.cell p ty]) (tmps:Array Value) (P:Program) (w:World):
  (results fn tmps).run P w=((asAddr (tmps.getD p undef)).run P w).andThen fun a w₁=>(loadVar ty a).run P w₁:=by
 simp only[results,h];simp[Sem.run_bind,Result.andThen]
variable {tmps : Array Value}{P : Program}
theorem res_load1 {p:Tmp}{ty:TypeId}{ad:Addr} (h:fn.results=#[.cell p ty]) (ht:tmps.getD p undef=.pointer (some ad)) (hl:(loadVar ty ad).run P w=.ok v w):
  (results fn tmps).run P w=.ok v w:=by
 rw[res_cell1 h,ht];simp[asAddr,hl]
end Bm
open Bm
def LJ (x:Int):Prop:=-9223372036854775808<=x/\x<=9223372036854775807
def Vx (c:Int) (n:Nat):Nat:=(if c<0 then (-(c+1)).toNat else c.toNat)%n
theorem Ny (c:Int) {n:Nat} (h:1<=n):Vx c n<n:=Nat.mod_lt _ h
theorem QX (c:Int) (n:Nat) (w:World) (hc:LJ c) (h1:1<=n) (h2:n<=1000000000000000000):
  Calls Try.prog 15 #[.int .i64 c,.int .i64 n] w fun e w'=>e=.returned (.int .i64 (Vx c n))/\w'=w:=by
 obtain⟨hc1,hc2⟩:=hc;by_cases h:c<0
 ·obtain⟨m,hm⟩:∃m:Nat,-(c+1)=(m:Int):=⟨(-(c+1)).toNat,by omega⟩;have HP:Hid (Vx c n=m%n):=by show _=_;unfold Vx;rw[if_pos h,hm,Int.toNat_natCast]
  have hmod:(m:Int).tmod (n:Int)=((m%n:Nat):Int):=by rw[Int.tmod_eq_emod_of_nonneg (by omega)];simp
  go_enter Try.func15,Try.ntmps15;go_wp2_with fail;go_ret;exact⟨YJ (by rw[HP.out];omega),rfl⟩
 ·obtain⟨m,rfl⟩:=Int.eq_ofNat_of_zero_le (show 0<=c by omega);have HP:Hid (Vx m n=m%n):=by show _=_;unfold Vx;rw[if_neg (by omega),Int.toNat_natCast]
  have hmod:(m:Int).tmod (n:Int)=((m%n:Nat):Int):=by rw[Int.tmod_eq_emod_of_nonneg (by omega)];simp
  go_enter Try.func15,Try.ntmps15;go_wp2_with fail;go_ret;exact⟨YJ (by rw[HP.out];omega),rfl⟩
end Go.Proofs.Ytoaaklhpmhjhkab
