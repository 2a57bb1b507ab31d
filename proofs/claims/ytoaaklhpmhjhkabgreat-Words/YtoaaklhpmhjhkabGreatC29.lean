import Derived.Test.YtoaaklhpmhjhkabGreatC28
set_option maxRecDepth 100000
set_option maxHeartbeats 4000000
set_option linter.all false
namespace Go.Proofs.YtoaaklhpmhjhkabGreat
open Go.RowKit
open Bm
theorem Vv (w:World):(zeroValue 41).run Tryz.prog w=.ok (.agg #[.int .i64 0,.slice none 0 0,.slice none 0 0,.slice none 0 0]) w:=by kernel_rfl
theorem XG:(Tryz.prog.info? 41).map (·.size)=some 4:=by kernel_rfl
def kl (f:Nat->Int):List Value:=(List.range 256).map fun i=>.int .i64 (f i)
theorem Jf (f:Nat->Int):(kl f).length=256:=by simp[kl]
theorem H6:(Tryz.prog.info? 67).map (·.size)=some 256:=by kernel_rfl
theorem Il (f:Nat->Int) (k:Nat) (hk:k<256) (w:World):(Instr.index 67 (.agg (kl f).toArray) (.int .i64 k)).run Tryz.prog w=.ok (.int .i64 (f k)) w:=by
 have hs:(sizeOf 3).run Tryz.prog w=.ok 1 w:=by kernel_rfl
 have hg:(kl f).toArray[k]?=some (.int .i64 (f k)):=by simp[kl,hk]
 have hp:(part 3 (kl f).toArray (k*1)).run Tryz.prog w=.ok (.int .i64 (f k)) w:=run_part_plain w (by kernel_rfl) (by rw[Nat.mul_one];exact hg);simp only[Instr.index,asIntOf,Sem.run_bind,Sem.run_pure,Result.andThen_ok,run_underlying Tryz.underlying67,Sem.run_ite,hs];rw[if_pos (by omega),Int.toNat_natCast];exact hp
variable {a:Act}{ops:Array Oper}{Q:Exit->Act->World->Prop}{lc ll ln:List Int}{rest:List Oper}{cap fuel g mb n:Nat}{f:Nat->Int}{ob:Obj}{o op:Oper}{ad:Option Addr}{vc vl vn:Value}{W0 w w' w'' w5:World}
theorem MT (hgd:op.guard=none) (x i:Operand) (ho:op.op=.index 67 x i) (f:Nat->Int) (hx:a.eval x=.agg (kl f).toArray) (k:Nat) (hi:a.eval i=.int .i64 k) (hk:k<256)
  (h:wpList Tryz.prog ops Q rest (a.put op.dst (.int .i64 (f k))) w):wpList Tryz.prog ops Q (op::rest) a w:=
 wpList_plain hgd fun _ hK=>by
  unfold Oper.wp execOp;have hq:=Il f k hk w;simp only[ho,hx,hi,Sem.run_bind,hq,Result.andThen_ok,Sem.run_pure];exact hK _ _ h
theorem V8 (x:Operand) (ho:o.op=.buildSlice 39 1 #[(0,x)]) (v:Int) (hx:a.eval x=.int .i64 v):
  (execOp a.eval o).run Tryz.prog w=.ok (.value (.slice (some ⟨w.heap.size,0,none⟩) 1 1)) (w.alloc (.cells #[.int .i64 v] 3)):=by
 unfold execOp;have hq:(Instr.buildSlice 39 1 #[(0,.int .i64 v)]).run Tryz.prog w=.ok (.slice (some ⟨w.heap.size,0,none⟩) 1 1) (w.alloc (.cells #[.int .i64 v] 3)):=by kernel_rfl
 have e:(#[((0:Nat),x)].map fun(p:Nat × Operand)=>(p.1,a.eval p.2))=#[(0,.int .i64 v)]:=by simp[hx]
 simp only[ho,Sem.run_bind,e,hq,Result.andThen_ok,Sem.run_pure]
structure MS (mb:Nat) (W0:World) (vc vl vn:Value) (lc ll ln:List Int) (w':World):Prop where
 c:TC mb [.int .i64 0,vc,vl,vn] w'
 oc:OwnL W0.heap.size vc lc w'
 ol:OwnL W0.heap.size vl ll w'
 on:OwnL W0.heap.size vn ln w'
 n1:∀k,vc.ownBlock=some k->vl.ownBlock≠some k
 n2:∀k,vc.ownBlock=some k->vn.ownBlock≠some k
 n3:∀k,vl.ownBlock=some k->vn.ownBlock≠some k
 b:Below mb W0 w'
 k:∀k,k<W0.heap.size->k≠mb->w'.heap[k]?=W0.heap[k]?
theorem MS.below (h:MS mb W0 vc vl vn lc ll ln w') (hW:Below w'.heap.size w' w'') (hm:mb<W0.heap.size):MS mb W0 vc vl vn lc ll ln w'':=
 ⟨h.c.below hW,h.oc.below hW,h.ol.below hW,h.on.below hW,h.n1,h.n2,h.n3,h.b.trans (hW.mono (by have:=h.b.size;omega)),fun k h1 h2=>by rw[hW.block k (by have:=h.b.size;omega)];exact h.k k h1 h2⟩
theorem MS.put1 {lc':List Int} (h:MS mb W0 vc vl vn lc ll ln w') (hm:mb<W0.heap.size) (h5:OwnL W0.heap.size (.slice (some ⟨g,0,none⟩) n cap) lc' w5) (hg:(w'.alloc ob).grownBy w5 vc.ownBlock) (hgb:vc.ownBlock=some g\/g=(w'.alloc ob).heap.size):
  w5.cell? ⟨mb,1,none⟩=some vc/\w5.frozen? ⟨mb,1,none⟩=false/\MS mb W0 (.slice (some ⟨g,0,none⟩) n cap) vl vn lc' ll ln (w5.setCell ⟨mb,1,none⟩ (.slice (some ⟨g,0,none⟩) n cap)):=by
 have x:=box_bel w' ob;have hz:(w'.alloc ob).heap.size=w'.heap.size+1:=by simp
 have a:=h.below x hm;have hvb:=h.oc.blk;have hlb:=h.ol.blk;have hnb:=h.on.blk;have hs:=h.b.size;have hcell:=a.c.block (hg.block _ a.c.lt (fun e=>by have:=(hvb _ e.symm).1;omega));obtain⟨c1,c2⟩:=hcell 1 _ rfl;have hb6:∀q,q≠mb->(w5.setCell ⟨mb,1,none⟩ (.slice (some ⟨g,0,none⟩) n cap)).heap[q]?=w5.heap[q]?:=fun q hq=>Below.heap_setCell w5 ⟨mb,1,none⟩ _ q (fun e=>hq e)
 have hg5:=(h5.blk g rfl).1;refine⟨c1,c2,hcell.set 1 (by simp) _,h5.keep (fun q hq=>hb6 q (by cases hq;show g≠mb;omega)),(a.ol.grown hg (fun q hq e=>h.n1 q e hq)).keep (fun q hq=>hb6 q (fun e=>by have:=(hlb q hq).1;omega)),(a.on.grown hg (fun q hq e=>h.n2 q e hq)).keep (fun q hq=>hb6 q (fun e=>by have:=(hnb q hq).1;omega)),fun q hq e=>?_,fun q hq e=>?_,h.n3,?_,fun q h1 h2=>?_⟩
 ·have e2:=Option.some.inj hq;subst e2;rcases hgb with h1|h1
  ·exact h.n1 g h1 e
  ·have:=(hlb g e).2;omega
 ·have e2:=Option.some.inj hq;subst e2;rcases hgb with h1|h1
  ·exact h.n2 g h1 e
  ·have:=(hnb g e).2;omega
 ·exact(a.b.grown hg (by have:=a.b.size;omega) (fun q hq=>by have:=(hvb q hq).1;omega)).setCell (p:=⟨mb,1,none⟩) (Nat.le_refl _) _
 ·rw[hb6 q h2,hg.block q (by omega) (fun e=>by have:=(hvb q e.symm).1;omega)];exact a.k q h1 h2
theorem MS.put2 {ll':List Int} (h:MS mb W0 vc vl vn lc ll ln w') (hm:mb<W0.heap.size) (h5:OwnL W0.heap.size (.slice (some ⟨g,0,none⟩) n cap) ll' w5) (hg:(w'.alloc ob).grownBy w5 vl.ownBlock) (hgb:vl.ownBlock=some g\/g=(w'.alloc ob).heap.size):
  w5.cell? ⟨mb,2,none⟩=some vl/\w5.frozen? ⟨mb,2,none⟩=false/\MS mb W0 vc (.slice (some ⟨g,0,none⟩) n cap) vn lc ll' ln (w5.setCell ⟨mb,2,none⟩ (.slice (some ⟨g,0,none⟩) n cap)):=by
 have x:=box_bel w' ob;have hz:(w'.alloc ob).heap.size=w'.heap.size+1:=by simp
 have a:=h.below x hm;have hvb:=h.ol.blk;have hlb:=h.oc.blk;have hnb:=h.on.blk;have hs:=h.b.size;have hcell:=a.c.block (hg.block _ a.c.lt (fun e=>by have:=(hvb _ e.symm).1;omega));obtain⟨c1,c2⟩:=hcell 2 _ rfl;have hb6:∀q,q≠mb->(w5.setCell ⟨mb,2,none⟩ (.slice (some ⟨g,0,none⟩) n cap)).heap[q]?=w5.heap[q]?:=fun q hq=>Below.heap_setCell w5 ⟨mb,2,none⟩ _ q (fun e=>hq e)
 have hg5:=(h5.blk g rfl).1;refine⟨c1,c2,hcell.set 2 (by simp) _,(a.oc.grown hg (fun q hq e=>h.n1 q hq e)).keep (fun q hq=>hb6 q (fun e=>by have:=(hlb q hq).1;omega)),h5.keep (fun q hq=>hb6 q (by cases hq;show g≠mb;omega)),(a.on.grown hg (fun q hq e=>h.n3 q e hq)).keep (fun q hq=>hb6 q (fun e=>by have:=(hnb q hq).1;omega)),fun q hq e=>?_,h.n2,fun q hq e=>?_,?_,fun q h1 h2=>?_⟩
 ·have e2:=Option.some.inj e;subst e2;rcases hgb with h1|h1
  ·exact h.n1 g hq h1
  ·have:=(hlb g hq).2;omega
 ·have e2:=Option.some.inj hq;subst e2;rcases hgb with h1|h1
  ·exact h.n3 g h1 e
  ·have:=(hnb g e).2;omega
 ·exact(a.b.grown hg (by have:=a.b.size;omega) (fun q hq=>by have:=(hvb q hq).1;omega)).setCell (p:=⟨mb,2,none⟩) (Nat.le_refl _) _
 ·rw[hb6 q h2,hg.block q (by omega) (fun e=>by have:=(hvb q e.symm).1;omega)];exact a.k q h1 h2
theorem MS.put3 {ln':List Int} (h:MS mb W0 vc vl vn lc ll ln w') (hm:mb<W0.heap.size) (h5:OwnL W0.heap.size (.slice (some ⟨g,0,none⟩) n cap) ln' w5) (hg:(w'.alloc ob).grownBy w5 vn.ownBlock) (hgb:vn.ownBlock=some g\/g=(w'.alloc ob).heap.size):
  w5.cell? ⟨mb,3,none⟩=some vn/\w5.frozen? ⟨mb,3,none⟩=false/\MS mb W0 vc vl (.slice (some ⟨g,0,none⟩) n cap) lc ll ln' (w5.setCell ⟨mb,3,none⟩ (.slice (some ⟨g,0,none⟩) n cap)):=by
 have x:=box_bel w' ob;have hz:(w'.alloc ob).heap.size=w'.heap.size+1:=by simp
 have a:=h.below x hm;have hvb:=h.on.blk;have hlb:=h.oc.blk;have hnb:=h.ol.blk;have hs:=h.b.size;have hcell:=a.c.block (hg.block _ a.c.lt (fun e=>by have:=(hvb _ e.symm).1;omega));obtain⟨c1,c2⟩:=hcell 3 _ rfl;have hb6:∀q,q≠mb->(w5.setCell ⟨mb,3,none⟩ (.slice (some ⟨g,0,none⟩) n cap)).heap[q]?=w5.heap[q]?:=fun q hq=>Below.heap_setCell w5 ⟨mb,3,none⟩ _ q (fun e=>hq e)
 have hg5:=(h5.blk g rfl).1;refine⟨c1,c2,hcell.set 3 (by simp) _,(a.oc.grown hg (fun q hq e=>h.n2 q hq e)).keep (fun q hq=>hb6 q (fun e=>by have:=(hlb q hq).1;omega)),(a.ol.grown hg (fun q hq e=>h.n3 q hq e)).keep (fun q hq=>hb6 q (fun e=>by have:=(hnb q hq).1;omega)),h5.keep (fun q hq=>hb6 q (by cases hq;show g≠mb;omega)),h.n1,fun q hq e=>?_,fun q hq e=>?_,?_,fun q h1 h2=>?_⟩
 ·have e2:=Option.some.inj e;subst e2;rcases hgb with h1|h1
  ·exact h.n2 g hq h1
  ·have:=(hlb g hq).2;omega
 ·have e2:=Option.some.inj e;subst e2;rcases hgb with h1|h1
  ·exact h.n3 g hq h1
  ·have:=(hnb g hq).2;omega
 ·exact(a.b.grown hg (by have:=a.b.size;omega) (fun q hq=>by have:=(hvb q hq).1;omega)).setCell (p:=⟨mb,3,none⟩) (Nat.le_refl _) _
 ·rw[hb6 q h2,hg.block q (by omega) (fun e=>by have:=(hvb q e.symm).1;omega)];exact a.k q h1 h2
def Xy (E:Nat->Nat->Bool) (kf:Nat->Int) (i:Nat):List Int:=(List.range i).map fun b=>idxI E (kf b).toNat
theorem Ki (E:Nat->Nat->Bool) (kf:Nat->Int) (i:Nat):Xy E kf (i+1)=Xy E kf i++[idxI E (kf i).toNat]:=by simp[Xy,List.range_succ]
theorem SS (E:Nat->Nat->Bool) (kf:Nat->Int) (i:Nat):(Xy E kf i).length=i:=by simp[Xy]
variable {P:Program}{md:Region.Mode}
theorem Om {S:World->Prop} (i k:Nat) {oi ok:Oper}{vi vk:Value}{listed L:Array Bool}{a A:Act}{w w':World}
  (hi:ops[i]?=some oi) (hk:ops[k]?=some ok) (gi:oi.guard=none) (gk:ok.guard=none) (r0:Region.ready md ops listed=[i,k]) (r1:Region.ready md ops (listed.setIfInBounds i true)=[k]) (r2:Region.ready md ops (listed.setIfInBounds k true)=[i])
  (xi:(execOp a.eval oi).run P w=.ok (.value vi) w) (yi:(execOp (a.put ok.dst vk).eval oi).run P w'=.ok (.value vi) w') (xk:(execOp a.eval ok).run P w=.ok (.value vk) w') (yk:(execOp (a.put oi.dst vi).eval ok).run P w=.ok (.value vk) w')
  (l1:(listed.setIfInBounds i true).setIfInBounds k true=L) (l2:(listed.setIfInBounds k true).setIfInBounds i true=L) (f1:(a.put oi.dst vi).put ok.dst vk=A) (f2:(a.put ok.dst vk).put oi.dst vi=A) (hS:S w) (hS':S w') (fin:wpAnyH P md ops Q S fuel L A w'):wpAnyH P md ops Q S (fuel+2) listed a w:=by
 refine wpAnyH_all r0 (by simp) (fun q hq=>?_);rcases List.mem_cons.1 hq with rfl|hq
 ·refine XI hi (by simp[Region.wanted,gi]) xi ⟨hS,wpAnyH_all r1 (by simp) (fun q hq=>?_)⟩;rw[List.mem_singleton.1 hq];refine XI hk (by simp[Region.wanted,gk]) yk ⟨hS',?_⟩;rw[l1,f1];exact fin
 ·rw[List.mem_singleton.1 hq];refine XI hk (by simp[Region.wanted,gk]) xk ⟨hS',wpAnyH_all r2 (by simp) (fun q hq=>?_)⟩;rw[List.mem_singleton.1 hq];refine XI hi (by simp[Region.wanted,gi]) yi ⟨hS',?_⟩;rw[l2,f2];exact fin
theorem IL.heap (h:IL ad f n w) (hk:∀k,k<w.heap.size->(∃o,ad=some ⟨k,o,none⟩)->w'.heap[k]?=w.heap[k]?):IL ad f n w':=fun i hi=>by
 obtain⟨b,off,e,hc⟩:=h i hi;refine⟨b,off,e,?_⟩;rw[World.cell?_of_block (w:=w) (a:=⟨b,off+i,none⟩) (hk b (World.block_lt_of_cell? w _ hc) ⟨off,e⟩)];exact hc
theorem Qj {K:Act->World->Prop} (s x:Operand)
  (ho:o.op=.call { callee:=.builtin .append,args:=#[s,x],argTypes:=#[39,39] }) (base:Nat)
  (v:Value) (l:List Int) (hs:a.eval s=v) (hown:OwnL base v l w) (hn:l.length<=1000000)
  (B:Nat) (t:Int) (hx:a.eval x=.slice (some ⟨B,0,none⟩) 1 1) (hnews:w.cell? ⟨B,0,none⟩=some (.int .i64 t)) (hbase:base<=w.heap.size) (H:Nat) (hH:w.heap.size=H)
  (h:∀g cap w',OwnL base (.slice (some ⟨g,0,none⟩) (l.length+1) cap) (l++[t]) w'->w.grownBy w' v.ownBlock->(v.ownBlock=some g\/g=H)->g<w'.heap.size->K (a.put o.dst (.slice (some ⟨g,0,none⟩) (l.length+1) cap)) w'):Oper.wp Tryz.prog o a w K Q:=by
 obtain⟨i,hi,hz0,hz1,hz2⟩:=UI;refine wp_append_lies w s x 39 ho base 3 i (.int .i64 0) 1 8 u_f hi hz0 hz1 hz2 rfl (by omega) v l.length (ints l) hs hown ⟨B,0,none⟩ 1 1 [.int .i64 t] hx rfl (fun j u hu=>?_) (by simp[Value.oneCell']) (by omega) (by unfold maxLen;omega) (by omega) hbase H hH ?_
 ·rw[Addr.add_lit,Nat.zero_add];cases j with
  |zero=>simp at hu;subst hu;exact hnews
  |succ j=>simp at hu
 ·intro g cap w' h1 h2 h3 h4;refine h g cap w' ?_ h2 h3 h4;unfold OwnL;rw[ints_append,List.length_append];exact h1
def Xu (A:Aut) (E:Nat->Nat->Bool) (i:Nat):List Int:=(List.range i).map fun s=>A.vd ((reps E A.N).getD s 0)
theorem KE (A:Aut) (E:Nat->Nat->Bool) (i:Nat):Xu A E (i+1)=Xu A E i++[A.vd ((reps E A.N).getD i 0)]:=by simp[Xu,List.range_succ]
theorem SX (A:Aut) (E:Nat->Nat->Bool) (i:Nat):(Xu A E i).length=i:=by simp[Xu]
def Te (rw:Nat->Nat->Int) (fs:List Nat) (s c:Nat):List Int:=(List.range c).map fun j=>rw s (fs.getD j 0)
def WM (rw:Nat->Nat->Int) (fs:List Nat) (i:Nat):List Int:=(List.range i).flatMap fun s=>Te rw fs s fs.length
theorem KP (rw:Nat->Nat->Int) (fs:List Nat) (s c:Nat):Te rw fs s (c+1)=Te rw fs s c++[rw s (fs.getD c 0)]:=by simp[Te,List.range_succ]
theorem Sv (rw:Nat->Nat->Int) (fs:List Nat) (i:Nat):WM rw fs (i+1)=WM rw fs i++Te rw fs i fs.length:=by simp[WM,List.range_succ]
theorem NM (rw:Nat->Nat->Int) (fs:List Nat) (s c:Nat):(Te rw fs s c).length=c:=by simp[Te]
theorem UN (rw:Nat->Nat->Int) (fs:List Nat) (i:Nat):(WM rw fs i).length=i*fs.length:=by
 induction i with
 |zero=>simp[WM]
 |succ i ih=>rw[Sv,List.length_append,ih,NM,Nat.succ_mul]
def Qo (A:Aut) (E:Nat->Nat->Bool) (kf:Nat->Int) (w:World) (en:Ending) (w':World):Prop:=
 ∃vc vl vn,en=.returned (.agg #[.int .i64 0,vc,vl,vn])/\OwnL w.heap.size vc (Xy (Cl (YT A E) (cnt E A.N)) kf 256) w'/\OwnL w.heap.size vl (Xu A E (cnt E A.N)) w'/\OwnL w.heap.size vn (WM (YT A E) (reps (Cl (YT A E) (cnt E A.N)) A.K) (cnt E A.N)) w' /\
  (∀k,vc.ownBlock=some k->vl.ownBlock≠some k)/\(∀k,vc.ownBlock=some k->vn.ownBlock≠some k)/\(∀k,vl.ownBlock=some k->vn.ownBlock≠some k)/\Below w.heap.size w w'
theorem PQ (gb:Nat) (A:Aut) (ta:Option Addr) (tc:Nat) (sa:Option Addr) (sc:Nat) (rl:Nat->Nat->Bool) (kb:Nat) (kf:Nat->Int) (E:Nat->Nat->Bool) (b1 b2:Nat) (vo vf:Value) (w:World) (hA:Aut.Small A) (hr:∀s k,s<A.N->k<A.K->-1<=A.to s k/\A.to s k<A.N) (hG:Gr gb A ta tc (.slice sa A.N sc) w) (hS:SR sa rl A.N w) (hv:∀i,i<A.N->A.vd i=Vf (rl i) 8 0) (hkb:w.rangeAt kb 0 (kl kf)) (hkf:∀b,b<256->0<=kf b/\kf b<A.K) (ho:OwnL b1 vo (V4 E A.N) w) (hf:OwnL b2 vf (YP E A.N) w):
  Calls Tryz.prog 19 #[.pointer (some ⟨gb,0,none⟩),.pointer (some ⟨kb,0,none⟩),.agg #[vo,vf]] w (Qo A E kf w):=by
 have hz:=Vv;have hkl:=hA.k;have hcn:=cnt_le E A.N;have hn:=hA.n;have h1:(w.alloc (.cells #[vo,vf] 78)).heap.size=w.heap.size+1:=by simp
 obtain⟨Wa,hWa⟩:=nam (w.alloc (.cells #[vo,vf] 78));obtain⟨Wb,hWb⟩:=nam (Wa.alloc (.cells #[.int .i64 0,.slice none 0 0,.slice none 0 0,.slice none 0 0] 41));obtain⟨W1,hW1⟩:=nam (Wb.alloc (.cells #[.int .i64 0,.slice none 0 0,.slice none 0 0,.slice none 0 0] 41));have za:Wa.heap.size=w.heap.size+1:=by rw[hWa];simp
 have zb:Wb.heap.size=w.heap.size+2:=by rw[hWb];simp[za]
 have z1:W1.heap.size=w.heap.size+3:=by rw[hW1];simp[zb]
 have Ta:TC w.heap.size [vo,vf] Wa:=by rw[hWa];exact TC.boxed w [vo,vf] _
 have Tb:TC (w.heap.size+1) [.int .i64 0,.slice none 0 0,.slice none 0 0,.slice none 0 0] Wb:=by rw[hWb,<-za];exact TC.boxed Wa [.int .i64 0,.slice none 0 0,.slice none 0 0,.slice none 0 0] _
 have Tc:TC (w.heap.size+2) [.int .i64 0,.slice none 0 0,.slice none 0 0,.slice none 0 0] W1:=by rw[hW1,<-zb];exact TC.boxed Wb [.int .i64 0,.slice none 0 0,.slice none 0 0,.slice none 0 0] _
 have xa:Below w.heap.size w Wa:=by rw[hWa];exact box_bel _ _
 have xb:Below Wa.heap.size Wa Wb:=by rw[hWb];exact box_bel _ _
 have xc:Below Wb.heap.size Wb W1:=by rw[hW1];exact box_bel _ _
 have B1:Below w.heap.size w W1:=(xa.trans (xb.mono (by omega))).trans (xc.mono (by omega));have U1:=(Ta.block (xb.block _ (by omega))).block (xc.block _ (by omega));have U2:=Tb.block (xc.block _ (by omega));have HRo:=MI gb A ta tc (.slice sa A.N sc) E b1 b2 vo vf W1 hA hr (hG.below B1) (ho.below B1) (hf.below B1);have HRo1:Hid (Calls Tryz.prog 45 #[.pointer (some ⟨gb,0,none⟩),.agg #[vo,vf]] W1 fun e w'=>∃v,e=.returned v/\OwnL W1.heap.size v (XO A.K (YT A E) (cnt E A.N*A.K)) w'/\Below W1.heap.size W1 w'):=HRo;have HW1:Hid (W1=((w.alloc (.cells #[vo,vf] 78)).alloc (.cells #[.int .i64 0,.slice none 0 0,.slice none 0 0,.slice none 0 0] 41)).alloc (.cells #[.int .i64 0,.slice none 0 0,.slice none 0 0,.slice none 0 0] 41)):=by show _=_;rw[hW1,hWb,hWa]
 have HT:=hyd5 U1 U2 Tc B1 z1;have HG:Hid (∀w',Below w.heap.size w w'->Gr gb A ta tc (.slice sa A.N sc) w'):=fun w' h=>hG.below h
 have HSR:Hid (∀w',Below w.heap.size w w'->SR sa rl A.N w'):=fun w' h=>hS.below h
 have HKb:Hid (∀w',Below w.heap.size w w'->w'.rangeAt kb 0 (kl kf)):=fun w' h j v hv=>by
  have:=hkb j v hv;rw[h.cell (p:=⟨kb,0+j,none⟩) (World.block_lt_of_cell? w _ this)];exact this
 have Hkf:=hyd hkf;have HF:Hid (∀w',Below w.heap.size w w'->OwnL b2 vf (YP E A.N) w'):=fun w' h=>hf.below h
 have Hv:=hyd hv;have hgw:=World.block_lt_of_cell? w _ hG.c0;obtain⟨NS,hNS⟩:=nam (cnt E A.N);have HNS:=hyd hNS;rw[<-hNS]at HRo1 hcn;clear hr hG hS hkb hkf ho hf hv h1 hWa hWb hW1 za zb z1 Ta Tb Tc xa xb xc B1 U1 U2 HRo hNS;go_enter Tryz.func19,Tryz.ntmps19;go_wp2_with fail;rw[<-HW1.out];refine HRo1.out.mono ?_;rintro en w2 ⟨v,rfl,hO2,hB2⟩;obtain⟨ra,rc,ev,il2⟩:=hO2.il;rw[Q8]at ev il2;subst ev;obtain⟨t1,t2,t3,t4,t5⟩:=HT.out;have B2:Below w.heap.size w w2:=t4.trans (hB2.mono (by omega));have c0:=(HG.out w2 B2).c0;have HCo:=hyd (PL ra rc A.K NS (YT A E) w2 hkl (by omega) il2);have HRb:Hid (∀k o,ra=some ⟨k,o,none⟩->w.heap.size+3<=k):=fun k o e=>by
  have:=(hO2.blk k (by rw[e];rfl)).1;omega
 have HIr:=hyd il2;have HT2:Hid (TC w.heap.size [vo,vf] w2/\TC (w.heap.size+1) [.int .i64 0,.slice none 0 0,.slice none 0 0,.slice none 0 0] w2/\TC (w.heap.size+2) [.int .i64 0,.slice none 0 0,.slice none 0 0,.slice none 0 0] w2/\Below w.heap.size w w2/\w.heap.size+3<=w2.heap.size):=⟨t1.block (hB2.block _ (by omega)),t2.block (hB2.block _ (by omega)),t3.block (hB2.block _ (by omega)),B2,by have:=hB2.size;omega⟩;obtain⟨M,hM⟩:=nam (NS*A.K);have HM:=hyd hM;rw[<-hM]at HCo;clear t1 t2 t3 t4 t5 B2 il2 hO2 hB2 HT HRo1 HW1;rw[<-hM];clear hM;go_wp2_with fail;refine HCo.out.mono ?_;rintro en w3 ⟨vco,vcf,rfl,hO3,hF3,hB3⟩;obtain⟨oa,oc,eo,ilo⟩:=hO3.il;rw[XL]at eo ilo;obtain⟨fa,fc,ef,ilf⟩:=hF3.il;rw[YE]at ef ilf;subst eo;subst ef;obtain⟨t1,t2,t3,t4,t5⟩:=HT2.out;obtain⟨CN,hCN⟩:=nam (cnt (Cl (YT A E) NS) A.K);have HCN:=hyd hCN;have hcnk:CN<=256:=by have:=cnt_le (Cl (YT A E) NS) A.K;omega
 rw[<-hCN]at ilf ⊢;have hz3:=hB3.size;have B3:Below w.heap.size w w3:=t4.trans (hB3.mono (by omega));obtain⟨mb,hmb⟩:=nam (w.heap.size+2);have Hmb:=hyd hmb;have hmw:mb<w3.heap.size:=by omega
 have M0:MS mb w3 (.slice none 0 0) (.slice none 0 0) (.slice none 0 0) [] [] [] w3:=by
  rw[hmb];exact⟨t3.block (hB3.block _ (by omega)),OwnL.nil _ _,OwnL.nil _ _,OwnL.nil _ _,fun k hk=>(by cases hk),fun k hk=>(by cases hk),fun k hk=>(by cases hk),Below.refl _ _,fun _ _ _=>rfl⟩
 have u1:=t1.block (hB3.block _ (by omega));have u2:=t2.block (hB3.block _ (by omega));have ilr:=HIr.out.below hB3;have hrk:=HKb.out w3 B3;have HOld:Hid (∀(vc vl vn:Value) (lc ll ln:List Int) (w':World),MS mb w3 vc vl vn lc ll ln w'->Below w.heap.size w w'/\TC w.heap.size [vo,vf] w'/\TC (w.heap.size+1) [.int .i64 0,.slice none 0 0,.slice none 0 0,.slice none 0 0] w'/\IL oa (fun i=>(V4 (Cl (YT A E) NS) A.K).getD i 0) A.K w'/\IL fa (fun i=>(YP (Cl (YT A E) NS) A.K).getD i 0) CN w'/\IL ra (fun i=>(XO A.K (YT A E) (NS*A.K)).getD i 0) (NS*A.K) w'):=fun vc vl vn lc ll ln w' h=>by
  have hne:∀(ad:Option Addr) (f:Nat->Int) (n:Nat),IL ad f n w3->(∀k o,ad=some ⟨k,o,none⟩->k≠mb)->IL ad f n w':=fun ad f n hI hk=>hI.heap (fun k h1 ⟨o,e⟩=>h.k k h1 (hk k o e))
  refine⟨B3.trans (h.b.mono (by omega)),u1.block (h.k _ (by omega) (by omega)),u2.block (h.k _ (by omega) (by omega)),hne _ _ _ ilo ?_,hne _ _ _ ilf ?_,hne _ _ _ ilr ?_⟩
  ·intro k o e;have:=(hO3.blk k (by rw[e];rfl)).1;omega
  ·intro k o e;have:=(hF3.blk k (by rw[e];rfl)).1;omega
  ·intro k o e;have:=HRb.out k o e;omega
 have HIr3:=hyd ilr;have HwW3:Hid (w.heap.size<=w3.heap.size):=by show _<=_;omega
 have HM0:=hyd M0;obtain⟨L4,hL4⟩:=nam (kl kf);have HL4:=hyd hL4;have HL4l:Hid (L4.length=256):=by show _=_;rw[hL4];exact Jf _
 rw[<-hL4]at hrk;rw[<-hmb];clear t1 t2 t3 t4 t5 hO3 hF3 hB3 ilo ilf B3 hmb u1 u2 ilr hL4 hCN M0 HT2 HCo HIr hz3 c0;go_wp2_with (first|(with_reducible refine gld 67 ?_;refine wpList_load_mid rfl 67 _ rfl kb 0 rfl L4 _ hrk Tryz.underlying67 rfl (by rw[HL4l.out];exact H6) ?_));rw[HL4.out];clear hrk HL4l
 go_loopw [34] (fun x w'=>∃(i:Nat) (vc:Value),i<=256/\x=.int .i64 i/\MS mb w3 vc (.slice none 0 0) (.slice none 0 0) (Xy (Cl (YT A E) NS) kf i) [] [] w') (fun x _=>256-(intOf x).toNat)
 case atStart=>exact⟨0,_,by omega,rfl,HM0.out⟩
 case round=>
  clear HM0;obtain⟨i,vc,hi,rfl,Z⟩:=hrel;by_cases hlt:i<256
  ·have hlt':(i:Int)<256:=by omega
   obtain⟨κ,hκ⟩:=Int.eq_ofNat_of_zero_le (Hkf.out i hlt).1;have hκK:κ<A.K:=by have:=(Hkf.out i hlt).2;omega
   have hκK':(κ:Int)<(A.K:Int):=by omega
   obtain⟨Bw,T0,T1,ilo,ilf,ilr⟩:=HOld.out _ _ _ _ _ _ wr Z;obtain⟨gx,ox,eoa,cx⟩:=ilo κ hκK;subst eoa;obtain⟨x,hx⟩:=nam (idxI (Cl (YT A E) NS) (kf i).toNat);have hgd:(V4 (Cl (YT A E) NS) A.K).getD κ 0=x:=by
    rw[hx,hκ,Int.toNat_natCast];simp[V4,List.getD_eq_getElem?_getD,hκK]
   simp only[hgd]at cx;have Hsu:Hid (Xy (Cl (YT A E) NS) kf (i+1)=Xy (Cl (YT A E) NS) kf i++[x]):=by show _=_;rw[Ki,hx]
   obtain⟨ca,ccap,evc,_⟩:=Z.oc.il;rw[SS]at evc;have Hvc:=hyd evc;have cm:=(Z.c 1 _ rfl).1;rw[evc]at cm;have HZ:=hyd Z;have Hκ:=hyd hκ;clear Z hx hgd evc ilf ilr ilo T0 T1 Bw hκ;go_wp2_with (first|(with_reducible show wpList _ _ _ (⟨_,Op.index 67 _ _,_,_,_,_⟩::_) _ _;refine MT rfl _ _ rfl kf rfl i rfl hlt ?_;rw[Hκ.out]));refine wp_region_any (by kernel_rfl) ?_;change wpAny _ _ _ _ 10 _ _ wr.drew;refine wpAny_take (i:=0) (oi:=?oT0) (v:=?vT0) ?hiT0 ?hsT0 ?hfT0 ?hrT0 ?hQT0 (Or.inl ⟨?hwT0,?hyT0⟩) ?restT0
   case hiT0=>simp only[List.getElem?_toArray,List.getElem?_cons_zero];rfl
   case hsT0=>kernel_rfl
   case hfT0=>kernel_rfl
   case hrT0=>kernel_rfl
   case hQT0=>exact fun _ _ _ h=>h
   case hwT0=>rfl
   case hyT0=>intro w';go_simp;first|done|with_reducible rfl
   (try simp only[psm])
   refine wpAny_take (i:=2) (oi:=?oT2) (v:=?vT2) ?hiT2 ?hsT2 ?hfT2 ?hrT2 ?hQT2 (Or.inl ⟨?hwT2,?hyT2⟩) ?restT2
   case hiT2=>simp only[gel];rfl
   case hsT2=>kernel_rfl
   case hfT2=>kernel_rfl
   case hrT2=>kernel_rfl
   case hQT2=>exact fun _ _ _ h=>h
   case hwT2=>rfl
   case hyT2=>intro w';go_simp;first|done|with_reducible rfl
   (try simp only[psm])
   refine wpAny_take (i:=3) (oi:=?oT3) (v:=?vT3) ?hiT3 ?hsT3 ?hfT3 ?hrT3 ?hQT3 (Or.inl ⟨?hwT3,?hyT3⟩) ?restT3
   case hiT3=>simp only[gel];rfl
   case hsT3=>kernel_rfl
   case hfT3=>kernel_rfl
   case hrT3=>kernel_rfl
   case hQT3=>exact fun _ _ _ h=>h
   case hwT3=>rfl
   case hyT3=>intro w';go_simp;first|done|with_reducible rfl
   (try simp only[psm])
   refine wpAny_take (i:=4) (oi:=?oT4) (v:=?vT4) ?hiT4 ?hsT4 ?hfT4 ?hrT4 ?hQT4 (Or.inl ⟨?hwT4,?hyT4⟩) ?restT4
   case hiT4=>simp only[gel];rfl
   case hsT4=>kernel_rfl
   case hfT4=>kernel_rfl
   case hrT4=>kernel_rfl
   case hQT4=>exact fun _ _ _ h=>h
   case hwT4=>rfl
   case hyT4=>intro w';go_simp;first|done|with_reducible rfl
   (try simp only[psm])
   obtain⟨W3,hW3⟩:=nam (wr.drew.alloc (.cells #[.int .i64 x] 3));have q4:=cm;have q5:=cx;have Zd:=HZ.out.below (Below.refl wr.heap.size wr).drew hmw;have x3:Below wr.drew.heap.size wr.drew W3:=by rw[hW3];exact box_bel wr.drew _
   have q4':W3.cell? ⟨mb,1,none⟩=some (.slice ca i ccap):=by rw[<-Hvc.out];exact((Zd.below x3 hmw).c 1 _ rfl).1
   refine Ux (fuel:=3) 1 5 6 (o4:=?o4) (o5:=?o5) (o6:=?o6) (v4:=.slice ca i ccap) (v5:=.int .i64 x) (v6:=.slice (some ⟨wr.drew.heap.size,0,none⟩) 1 1) (L:=#[true,true,true,true,true,true,true,false,false,false]) (A:=?A) (w':=W3)
    ?h4 ?h5 ?h6 ?g4 ?g5 ?g6 ?r0 ?r1 ?r2 ?r3 ?r4 ?r5 ?x4 ?y4 ?z4 ?x5 ?y5 ?x6 ?y6 ?z6 ?l1 ?l2 ?l3 ?f1 ?f2 ?f3 ?fin
   case h4=>simp only[gel];rfl
   case h5=>simp only[gel];rfl
   case h6=>simp only[gel];rfl
   case g4=>rfl
   case g5=>rfl
   case g6=>rfl
   case r0=>kernel_rfl
   case r1=>kernel_rfl
   case r2=>kernel_rfl
   case r3=>kernel_rfl
   case r4=>kernel_rfl
   case r5=>kernel_rfl
   case x4=>go_simp
   case y4=>simp only[psm];go_simp
   case z4=>clear hW3;simp only[psm];go_simp
   case x5=>go_simp
   case y5=>simp only[psm];go_simp
   case x6=>rw[hW3];exact V8 _ rfl x rfl
   case y6=>rw[hW3];exact V8 _ rfl x rfl
   case z6=>rw[hW3];exact V8 _ rfl x rfl
   case l1=>kernel_rfl
   case l2=>kernel_rfl
   case l3=>kernel_rfl
   case f1=>simp only[psm];rfl
   case f2=>simp only[psm]
   case f3=>simp only[psm]
   refine Xg 7 rfl (by kernel_rfl) ?_;simp only[List.drop_succ_cons,List.drop_zero];have hnw:W3.cell? ⟨wr.drew.heap.size,0,none⟩=some (.int .i64 x):=by rw[hW3,World.cell?_alloc_new];rfl
   have Z3:=Zd.below x3 hmw;have hO3:=Z3.oc;have hbs:=Z3.b.size;refine Bm.wpList_append_int (by rfl) _ _ (by rfl) w3.heap.size vc (Xy (Cl (YT A E) NS) kf i) (by rw[Hvc.out];rfl) hO3 (by rw[SS];omega) wr.drew.heap.size x (by rfl) hnw hbs _ rfl ?_;rw[SS];intro g5 cap5 w5 hO5 hgrow hgb5 hl5;rw[<-Hsu.out]at hO5;rw[hW3]at hgrow hgb5;obtain⟨p1,p2,Z5⟩:=Zd.put1 hmw hO5 hgrow hgb5;obtain⟨W6,hW6⟩:=nam (w5.setCell ⟨mb,1,none⟩ (.slice (some ⟨g5,0,none⟩) (i+1) cap5));rw[<-hW6]at Z5;have HW6:=hyd hW6;rw[Hvc.out]at p1;clear hW6 hO5 hgrow hgb5 hl5 Z3 hO3 hbs hnw Zd x3 q4 q5 q4' hW3 cm cx HZ;go_wp2_with fail
   (try simp only[Act.put])
   rw[<-HW6.out];go_roundw
   case rel=>exact⟨i+1,_,by omega,by go_num,Z5⟩
   case measure=>simp[intOf];omega
  ·have hge:¬(i:Int)<256:=by omega
   have h256:i=256:=by omega
   subst h256;obtain⟨Bw,T0,T1,_,_,_⟩:=HOld.out _ _ _ _ _ _ wr Z;obtain⟨va,vcap,evf,ilv⟩:=(HF.out wr Bw).il;rw[YE,<-HNS.out]at evf;have Hvf:=hyd evf;have cv:=(T0 1 _ rfl).1;rw[evf]at cv;obtain⟨fs,hfs⟩:=nam (reps (Cl (YT A E) NS) A.K);have Hfs:=hyd hfs;obtain⟨CLS,hCLS⟩:=nam (Xy (Cl (YT A E) NS) kf 256);have HCLS:=hyd hCLS;rw[<-hCLS]at Z;have HZ0:=hyd Z;have hNS200:(NS:Int)<=200:=by omega
   clear Z Bw T0 T1 ilv evf hfs hCLS;go_wp2_with fail
   go_loopw [50] (fun x w'=>∃(i:Nat) (vl vn:Value),i<=NS/\x=.int .i64 i/\MS mb w3 vc vl vn CLS (Xu A E i) (WM (YT A E) fs i) w') (fun x _=>NS-(intOf x).toNat)
   case atStart=>exact⟨0,_,_,by omega,rfl,HZ0.out⟩
   case round=>
    clear HZ0 cv;obtain⟨i,vl,vn,hi,rfl,Z⟩:=hrel;obtain⟨Bw,T0,T1,ilo,ilf,ilr⟩:=HOld.out _ _ _ _ _ _ wr Z;by_cases hlt:i<NS
    ·have hlt':(i:Int)<NS:=by omega
     have hrl:(reps E A.N).length=NS:=by rw[HNS.out];rfl
     obtain⟨σ,hσ⟩:∃σ,(reps E A.N)[i]?=some σ:=⟨(reps E A.N)[i]'(by omega),List.getElem?_eq_getElem _⟩;obtain⟨hσN,_,_⟩:=reps_mem hσ;obtain⟨va2,vcap2,evf2,ilv⟩:=(HF.out wr Bw).il;rw[YE,<-HNS.out]at evf2 ilv;have eva:va2=va:=by have:=Hvf.out;rw[evf2]at this;exact(Value.slice.inj this).1
     subst eva;obtain⟨gv,ov,eva,cv⟩:=ilv i hlt;subst eva;have hgd:(YP E A.N).getD i 0=(σ:Int):=by simp[YP,List.getD_eq_getElem?_getD,hσ]
     simp only[hgd]at cv;obtain⟨sb,so,esa,hsr⟩:=HSR.out wr Bw σ hσN;subst esa;have cg1:=(HG.out wr Bw).c1;have hσN':(σ:Int)<(A.N:Int):=by omega
     obtain⟨y,hy⟩:=nam (A.vd σ);have HCv:Hid (Calls Tryz.prog 43 #[.pointer (some ⟨sb,so+σ*104,none⟩)] wr fun e w'=>e=.returned (.int .i64 y)/\w'=wr):=by
      have:=Sg sb (so+σ*104) (rl σ) wr hsr;rw[<-Hv.out σ hσN,<-hy]at this;exact this
     have Hlab:Hid (Xu A E (i+1)=Xu A E i++[y]):=by show _=_;rw[KE,hy,List.getD_eq_getElem?_getD,hσ];rfl
     obtain⟨lad,lcap,evl,_⟩:=Z.ol.il;rw[SX]at evl;have Hvl:=hyd evl;have cm:=(Z.c 2 _ rfl).1;rw[evl]at cm;have hx:=box_bel wr (.cells #[.int .i64 y] 3);have hO1:=Z.ol.below hx;have hnw:(wr.alloc (.cells #[.int .i64 y] 3)).cell? ⟨wr.heap.size,0,none⟩=some (.int .i64 y):=by rw[World.cell?_alloc_new];rfl
     have hbs:w3.heap.size<=(wr.alloc (.cells #[.int .i64 y] 3)).heap.size:=by have:=Z.b.size;have:=hx.size;omega
     have HZ:=hyd Z;have hll:(Xu A E i).length<=1000000:=by rw[SX];omega
     rw[evl]at hO1;clear Z Bw T0 T1 ilo ilf ilr hrl hσ evf2 ilv hgd hsr hy evl hx;go_wp2_with fail;refine HCv.out.mono ?_;rintro en wr' ⟨rfl,rfl⟩;go_wp2_with (first|(at_builtin;refine Bm.wpList_append_int (by rfl) _ _ (by rfl) w3.heap.size (.slice lad i lcap) (Xu A E i) (by rfl) hO1 hll wr'.heap.size y (by rfl) hnw hbs _ rfl ?_;rw[SX];intro g5 cap5 w5 hO5 hgrow hgb5 hl5;refine Wg.out ?_));refine⟨?_⟩
     (try simp only[psm])
     rw[<-Hvl.out]at hgrow hgb5;rw[<-Hlab.out]at hO5;obtain⟨p1,p2,Z5⟩:=HZ.out.put2 hmw hO5 hgrow hgb5;obtain⟨W6,hW6⟩:=nam (w5.setCell ⟨mb,2,none⟩ (.slice (some ⟨g5,0,none⟩) (i+1) cap5));rw[<-hW6]at Z5;have HW6:=hyd hW6;rw[Hvl.out]at p1;have HZ5:Hid (MS mb w3 vc (.slice (some ⟨g5,0,none⟩) (i+1) cap5) vn CLS (Xu A E (i+1)) (WM (YT A E) fs i++Te (YT A E) fs i 0) W6):=by
      show MS _ _ _ _ _ _ _ _ _;rw[show Te (YT A E) fs i 0=[] from rfl,List.append_nil];exact Z5
     clear hW6 hO5 hgrow hgb5 hl5 hO1 hnw hbs Z5 HZ cm cv cg1 HCv;go_wp2_with fail;rw[<-HW6.out];clear HW6 p1 p2
     go_loopw [70] (fun x w'=>∃(c:Nat) (vn:Value),c<=CN/\x=.int .i64 c/\MS mb w3 vc (.slice (some ⟨g5,0,none⟩) (i+1) cap5) vn CLS (Xu A E (i+1)) (WM (YT A E) fs i++Te (YT A E) fs i c) w') (fun x _=>CN-(intOf x).toNat)
     case atStart=>exact⟨0,_,by omega,rfl,HZ5.out⟩
     case round=>
      clear HZ5;obtain⟨c,vn,hc,rfl,Z⟩:=hrel;obtain⟨Bw,T0,T1,ilo,ilf,ilr⟩:=HOld.out _ _ _ _ _ _ wr Z;have hfl:fs.length=CN:=by rw[Hfs.out,HCN.out];rfl
      by_cases hcl:c<CN
      ·have hcl':(c:Int)<CN:=by omega
       obtain⟨κ,hκ⟩:∃κ,fs[c]?=some κ:=⟨fs[c]'(by omega),List.getElem?_eq_getElem _⟩;have hκK:κ<A.K:=by have h:=hκ;rw[Hfs.out]at h;exact(reps_mem h).1
       obtain⟨gf,of_,efa,cf⟩:=ilf c hcl;subst efa;have hgd:(YP (Cl (YT A E) NS) A.K).getD c 0=(κ:Int):=by
        rw[YP,<-Hfs.out];simp[List.getD_eq_getElem?_getD,hκ]
       simp only[hgd]at cf;obtain⟨p,hp⟩:=nam (i*A.K);have ia:(i:Int)*(A.K:Int)=(p:Int):=by rw[hp];simp
       obtain⟨q,hq⟩:=nam (p+κ);have iq:(p:Int)+(κ:Int)=(q:Int):=by omega
       have hqM:q<NS*A.K:=by
        have:(i+1)*A.K<=NS*A.K:=Nat.mul_le_mul_right _ hlt;rw[Nat.add_mul]at this;omega
       obtain⟨rb,ro,era,cr⟩:=ilr q hqM;subst era;obtain⟨x,hx⟩:=nam (YT A E i κ);have hgr:(XO A.K (YT A E) (NS*A.K)).getD q 0=x:=by
        have hd:=Sp (s:=i) hκK;rw[hq,hp]at hqM ⊢;simp[XO,List.getD_eq_getElem?_getD,hqM,hd.1,hd.2,hx]
       simp only[hgr]at cr;have hqM':(q:Int)<M:=by have:=HM.out;omega
       have hpM:(p:Int)<=51200:=by
        have h1:p<=200*256:=by rw[hp];exact Nat.mul_le_mul (by omega) hkl
        omega
       have hMb:(M:Int)<=51200:=by
        have h1:M<=200*256:=by rw[HM.out];exact Nat.mul_le_mul (by omega) hkl
        omega
       have hwp:IntKind.i64.wrap (p:Int)=(p:Int):=by simp[IntKind.wrap,IntKind.bits,IntKind.signed];omega
       have hwq:IntKind.i64.wrap (q:Int)=(q:Int):=by simp[IntKind.wrap,IntKind.bits,IntKind.signed];omega
       have cg0:=(HG.out wr Bw).c0;have Hnx:Hid (WM (YT A E) fs i++Te (YT A E) fs i (c+1)=(WM (YT A E) fs i++Te (YT A E) fs i c)++[x]):=by
        show _=_;rw[KP,List.append_assoc,List.getD_eq_getElem?_getD,hκ,hx];rfl
       obtain⟨LN,hLN⟩:=nam (WM (YT A E) fs i++Te (YT A E) fs i c);rw[<-hLN]at Z Hnx;have hlen:LN.length<=1000000:=by
        rw[hLN,List.length_append,UN,NM,hfl];have h1:i*CN<=200*256:=Nat.mul_le_mul (by omega) (by omega);omega
       obtain⟨na,ncap,evn,_⟩:=Z.on.il;obtain⟨nlen,hnl⟩:=nam LN.length;rw[<-hnl]at evn;have Hvn:=hyd evn;have cm:=(Z.c 3 _ rfl).1;rw[evn]at cm;have HZ:=hyd Z;have Hgb:Hid (gb<w.heap.size/\gb≠mb):=⟨hgw,by have:=Hmb.out;omega⟩;have hrb3:rb<w3.heap.size/\rb≠mb:=by
        have h1:=HRb.out rb ro rfl;refine⟨?_,by have:=Hmb.out;omega⟩;have h2:=HIr3.out q hqM;obtain⟨b',o',e',c'⟩:=h2;cases e';exact World.block_lt_of_cell? w3 _ c'
       have Hrb:=hyd hrb3;have HSS:Hid (∀(vn':Value) (ln':List Int) (w':World),MS mb w3 vc (.slice (some ⟨g5,0,none⟩) (i+1) cap5) vn' CLS (Xu A E (i+1)) ln' w'->w'.cell? ⟨gb,0,none⟩=some (.int .i64 A.K)/\w'.cell? ⟨rb,ro+q,none⟩=some (.int .i64 x)):=fun vn' ln' w' h=>by
        obtain⟨Bw',_,_,_,_,ilr'⟩:=HOld.out _ _ _ _ _ _ w' h;obtain⟨rb',ro',e',c'⟩:=ilr' q hqM;cases e';simp only[hgr]at c';exact⟨(HG.out w' Bw').c0,c'⟩
       clear Z Bw T0 T1 ilo ilf ilr hgd hgr hx hp hq hqM hLN evn hκ hfl hrb3 hnl;go_wp2_with fail;have hS0:wr.drew.cell? ⟨gb,0,none⟩=some (.int .i64 A.K)/\wr.drew.cell? ⟨rb,ro+q,none⟩=some (.int .i64 x):=⟨cg0,cr⟩;refine wp_region_held_drew (S:=fun w'=>w'.cell? ⟨gb,0,none⟩=some (.int .i64 A.K)/\w'.cell? ⟨rb,ro+q,none⟩=some (.int .i64 x)) (by kernel_rfl) hS0 (fun hHeld=>?_);refine wpAnyH_take (i:=0) (oi:=?oH0) (v:=?vH0) ?hiH0 ?hsH0 ?hfH0 ?hrH0 ?hQH0 (Or.inl ⟨?hwH0,?hyH0⟩) ?hSH0 ?restH0
       case hiH0=>simp only[List.getElem?_toArray,List.getElem?_cons_zero];rfl
       case hsH0=>kernel_rfl
       case hfH0=>kernel_rfl
       case hrH0=>kernel_rfl
       case hQH0=>exact fun _ _ _ h=>h
       case hSH0=>assumption
       case hwH0=>rfl
       case hyH0=>intro w' hSw;(try dsimp only at hSw);go_simp;first|done|with_reducible rfl
       (try simp only[psm])
       refine wpAnyH_take (i:=2) (by simp only[gel];rfl) (by kernel_rfl) (by kernel_rfl) (by kernel_rfl) (by exact fun _ _ _ h=>h) (Or.inl ⟨by rfl,by intro w' hSw;(try dsimp only at hSw);go_simp;first|done|with_reducible rfl⟩) (by assumption) ?_
       (try simp only[psm])
       refine wpAnyH_take (i:=3) (by simp only[gel];rfl) (by kernel_rfl) (by kernel_rfl) (by kernel_rfl) (by exact fun _ _ _ h=>h) (Or.inl ⟨by rfl,by intro w' hSw;(try dsimp only at hSw);go_simp;first|done|with_reducible rfl⟩) (by assumption) ?_
       (try simp only[psm])
       refine wpAnyH_take (i:=4) (by simp only[gel];rfl) (by kernel_rfl) (by kernel_rfl) (by kernel_rfl) (by exact fun _ _ _ h=>h) (Or.inl ⟨by rfl,by intro w' hSw;(try dsimp only at hSw);go_simp;first|done|with_reducible rfl⟩) (by assumption) ?_
       (try simp only[psm])
       refine wpAnyH_take (i:=5) (by simp only[gel];rfl) (by kernel_rfl) (by kernel_rfl) (by kernel_rfl) (by exact fun _ _ _ h=>h) (Or.inl ⟨by rfl,by intro w' hSw;(try dsimp only at hSw);go_simp;first|done|with_reducible rfl⟩) (by assumption) ?_
       (try simp only[psm])
       refine wpAnyH_take (i:=6) (by simp only[gel];rfl) (by kernel_rfl) (by kernel_rfl) (by kernel_rfl) (by exact fun _ _ _ h=>h) (Or.inl ⟨by rfl,by intro w' hSw;(try dsimp only at hSw);go_simp;first|done|with_reducible rfl⟩) (by assumption) ?_
       (try simp only[psm])
       refine wpAnyH_take (i:=7) (by simp only[gel];rfl) (by kernel_rfl) (by kernel_rfl) (by kernel_rfl) (by exact fun _ _ _ h=>h) (Or.inl ⟨by rfl,by intro w' hSw;(try dsimp only at hSw);go_simp;first|done|with_reducible rfl⟩) (by assumption) ?_
       (try simp only[psm])
       refine wpAnyH_take (i:=8) (by simp only[gel];rfl) (by kernel_rfl) (by kernel_rfl) (by kernel_rfl) (by exact fun _ _ _ h=>h) (Or.inl ⟨by rfl,by intro w' hSw;(try dsimp only at hSw);go_simp;first|done|with_reducible rfl⟩) (by assumption) ?_
       (try simp only[psm])
       refine wpAnyH_take (i:=9) (by simp only[gel];rfl) (by kernel_rfl) (by kernel_rfl) (by kernel_rfl) (by exact fun _ _ _ h=>h) (Or.inl ⟨by rfl,by intro w' hSw;(try dsimp only at hSw);go_simp;first|done|with_reducible rfl⟩) (by assumption) ?_
       (try simp only[psm])
       refine wpAnyH_take (i:=10) (by simp only[gel];rfl) (by kernel_rfl) (by kernel_rfl) (by kernel_rfl) (by exact fun _ _ _ h=>h) (Or.inl ⟨by rfl,by intro w' hSw;(try dsimp only at hSw);go_simp;first|done|with_reducible rfl⟩) (by assumption) ?_
       (try simp only[psm])
       refine wpAnyH_take (i:=11) (by simp only[gel];rfl) (by kernel_rfl) (by kernel_rfl) (by kernel_rfl) (by exact fun _ _ _ h=>h) (Or.inl ⟨by rfl,by intro w' hSw;(try dsimp only at hSw);go_simp;first|done|with_reducible rfl⟩) (by assumption) ?_
       (try simp only[psm])
       refine wpAnyH_take (i:=12) (by simp only[gel];rfl) (by kernel_rfl) (by kernel_rfl) (by kernel_rfl) (by exact fun _ _ _ h=>h) (Or.inl ⟨by rfl,by intro w' hSw;(try dsimp only at hSw);go_simp;first|done|with_reducible rfl⟩) (by assumption) ?_
       (try simp only[psm])
       obtain⟨W3,hW3⟩:=nam (wr.drew.alloc (.cells #[.int .i64 x] 3));have q4:=cm;have Zd:=HZ.out.below (Below.refl wr.heap.size wr).drew hmw;have x3:Below wr.drew.heap.size wr.drew W3:=by rw[hW3];exact box_bel wr.drew _
       have Z3:=Zd.below x3 hmw;have q4':W3.cell? ⟨mb,3,none⟩=some (.slice na nlen ncap):=by rw[<-Hvn.out];exact(Z3.c 3 _ rfl).1
       have hS3:=HSS.out _ _ W3 Z3;refine Om (fuel:=3) 1 13 (oi:=?Jp1) (ok:=?Jp13) (vi:=.slice na nlen ncap) (vk:=.slice (some ⟨wr.drew.heap.size,0,none⟩) 1 1) (L:=#[true,true,true,true,true,true,true,true,true,true,true,true,true,true,false,false,false]) (A:=?JA) (w':=W3)
        ?Jh1 ?Jh13 ?Jg1 ?Jg13 ?Jr0 ?Jr1 ?Jr2 ?Jxi ?Jyi ?Jxk ?Jyk ?Jl1 ?Jl2 ?Jf1 ?Jf2 ?JhS ?JhS' ?Jfin
       case Jh1=>simp only[gel];rfl
       case Jh13=>simp only[gel];rfl
       case Jg1=>rfl
       case Jg13=>rfl
       case Jr0=>kernel_rfl
       case Jr1=>kernel_rfl
       case Jr2=>kernel_rfl
       case Jxi=>go_simp
       case Jyi=>clear hW3;simp only[psm];go_simp
       case Jxk=>rw[hW3];exact V8 _ rfl x rfl
       case Jyk=>rw[hW3];exact V8 _ rfl x rfl
       case Jl1=>kernel_rfl
       case Jl2=>kernel_rfl
       case Jf1=>simp only[psm];rfl
       case Jf2=>simp only[psm]
       case JhS=>exact hHeld
       case JhS'=>exact hS3
       have hnw:W3.cell? ⟨wr.drew.heap.size,0,none⟩=some (.int .i64 x):=by rw[hW3,World.cell?_alloc_new];rfl
       have hO3:=Z3.on;have hbs:=Z3.b.size;refine wpAnyH_ready (rs:=[14]) (by kernel_rfl) (by simp) ?_;refine AllReadyH.cons (o:=?oH14) ?hiH14 (fun K hK=>?_) AllReadyH.nil
       case hiH14=>simp only[gel];rfl
       rw[if_pos (by rfl)];refine Qj _ _ rfl w3.heap.size vn LN (by rw[Hvn.out];rfl) hO3 hlen wr.drew.heap.size x rfl hnw hbs _ rfl ?_;intro g6 cap6 w6 hO6 hgrow hgb6 hl6;rw[<-Hnx.out]at hO6;rw[hW3]at hgrow hgb6;obtain⟨p1,p2,Z6⟩:=Zd.put3 hmw hO6 hgrow hgb6;have hS6:w6.cell? ⟨gb,0,none⟩=some (.int .i64 A.K)/\w6.cell? ⟨rb,ro+q,none⟩=some (.int .i64 x):=by
        have hvb:=Zd.on.blk;obtain⟨y1,y2⟩:=hS3;rw[hW3]at y1 y2;have z1:=Hgb.out.1;have z2:=Hrb.out.1;have zw:=HwW3.out;exact⟨by rw[hgrow.cell_far ⟨gb,0,none⟩ (World.block_lt_of_cell? _ _ y1) (fun e=>by have:=(hvb _ e.symm).1;simp only at this;omega)];exact y1,by rw[hgrow.cell_far ⟨rb,ro+q,none⟩ (World.block_lt_of_cell? _ _ y2) (fun e=>by have:=(hvb _ e.symm).1;simp only at this;omega)];exact y2⟩
       refine hK.out _ _ hS6 (fun hHeld=>?_);clear hK K;obtain⟨W7,hW7⟩:=nam (w6.setCell ⟨mb,3,none⟩ (.slice (some ⟨g6,0,none⟩) (LN.length+1) cap6));rw[<-hW7]at Z6;have HW7:=hyd hW7;have hS7:=HSS.out _ _ W7 Z6;rw[Hvn.out]at p1
       (try simp only[psm])
       clear hW7 hO6 hgrow hgb6 hl6 Z3 hO3 hbs hnw Zd x3 q4 q4' hW3 cm cf cr HZ hS3 hS0;refine wpAnyH_take (i:=15) (by simp only[gel];rfl) (by kernel_rfl) (by kernel_rfl) (by kernel_rfl) (by exact fun _ _ _ h=>h) (Or.inl ⟨by rfl,by intro w' hSw;(try dsimp only at hSw);go_simp;first|done|with_reducible rfl⟩) (by assumption) ?_
       (try simp only[psm])
       refine wpAnyH_ready (rs:=[16]) (by kernel_rfl) (by simp) ?_;refine AllReadyH.cons (o:=?oH16) ?hiH16 (fun K hK=>?_) AllReadyH.nil
       case hiH16=>simp only[gel];rfl
       go_simp;rw[<-HW7.out];refine hK.out _ _ hS7 (fun hHeld=>?_);clear hK K;refine wpAnyH_done (by kernel_rfl) ?_ _;go_wp2_with fail
       (try simp only[Act.put])
       go_roundw
       case rel=>exact⟨c+1,_,by omega,by go_num,Z6⟩
       case measure=>simp[intOf];omega
      ·have hge:¬(c:Int)<CN:=by omega
       have hcc:c=CN:=by omega
       subst hcc;have Z2:MS mb w3 vc (.slice (some ⟨g5,0,none⟩) (i+1) cap5) vn CLS (Xu A E (i+1)) (WM (YT A E) fs (i+1)) wr:=by
        rw[Sv,hfl];exact Z
       clear Z Bw T0 T1 ilo ilf ilr hfl;go_wp2_with fail;go_roundw
       case rel=>exact⟨i+1,_,_,by omega,by go_num,Z2⟩
       case measure=>simp[intOf];omega
    ·have hge:¬(i:Int)<NS:=by omega
     have hiN:i=NS:=by omega
     subst hiN;have rM:=Z.c.range;have tz:=T1.there;have hmb2:=Hmb.out;obtain⟨a1,c1,e1,_⟩:=Z.oc.il;obtain⟨a2,c2,e2,_⟩:=Z.ol.il;obtain⟨a3,c3,e3,_⟩:=Z.on.il;have Hal:Hid ((#[.int .i64 0,vc,vl,vn]:Array Value).all (·.oneCell')=true):=by
      show([.int .i64 0,vc,vl,vn]:List Value).toArray.all (·.oneCell')=true;rw[List.all_toArray,e1,e2,e3];rfl
     have hG2:=Y6 (w.heap.size+1) [.int .i64 0,vc,vl,vn] 0 wr;have hrr:=World.rangeAt_setCells_same wr (w.heap.size+1) 0 [.int .i64 0,vc,vl,vn] tz;have hfin:=run_loadVar_mid (P:=Tryz.prog) (wr.setCells (w.heap.size+1) 0 [.int .i64 0,vc,vl,vn]) (w.heap.size+1) 0 41 [.int .i64 0,vc,vl,vn] _ hrr u_m rfl XG;have BX:=Bw.grown hG2 Bw.size (fun q hq=>by cases hq;omega);have h1b:=Z.oc.blk;have h2b:=Z.ol.blk;have h3b:=Z.on.blk;have O1:=Z.oc.grown hG2 (fun q hq e=>by have:=Option.some.inj e;have:=(h1b q hq).1;omega);have O2:=Z.ol.grown hG2 (fun q hq e=>by have:=Option.some.inj e;have:=(h2b q hq).1;omega);have O3:=Z.on.grown hG2 (fun q hq e=>by have:=Option.some.inj e;have:=(h3b q hq).1;omega);obtain⟨WX,hWX⟩:=nam (wr.setCells (w.heap.size+1) 0 [.int .i64 0,vc,vl,vn]);rw[<-hWX]at hfin BX O1 O2 O3;have HWX:=hyd hWX;have Hfin:=hyd hfin;have HO:Hid (OwnL w.heap.size vc CLS WX/\OwnL w.heap.size vl (Xu A E i) WX/\OwnL w.heap.size vn (WM (YT A E) fs i) WX/\(∀k,vc.ownBlock=some k->vl.ownBlock≠some k)/\(∀k,vc.ownBlock=some k->vn.ownBlock≠some k)/\(∀k,vl.ownBlock=some k->vn.ownBlock≠some k)/\Below w.heap.size w WX):=⟨O1.mono (by omega),O2.mono (by omega),O3.mono (by omega),Z.n1,Z.n2,Z.n3,BX⟩;clear Z Bw T0 T1 ilo ilf ilr hG2 hrr hfin BX h1b h2b h3b O1 O2 O3 hWX e1 e2 e3 hmb2;go_wp2_with (first|(with_reducible refine gld 41 ?_;refine Wg.out ?_));refine⟨?_⟩;refine wpList_load_mid rfl 41 _ rfl mb 0 rfl [.int .i64 0,vc,vl,vn] _ rM u_m rfl XG ?_
     (try simp only[psm])
     refine wpList_store_mid rfl 41 _ _ rfl (w.heap.size+1) 0 #[.int .i64 0,vc,vl,vn] rfl rfl tz XG Hal.out ?_;rw[List.toList_toArray,<-HWX.out];go_wp2_with fail;refine bodyPost_ret (v:=.agg #[.int .i64 0,vc,vl,vn]) (res_load1 Tryz.results19 rfl Hfin.out) rfl ?_;obtain⟨o1,o2,o3,o4,o5,o6,o7⟩:=HO.out;have e1:=HNS.out;have e2:=HCLS.out;have e3:=Hfs.out;rw[e1]at e2 e3 o2 o3;rw[e2]at o1;rw[e3]at o3;exact⟨vc,vl,vn,rfl,o1,o2,o3,o4,o5,o6,o7⟩
end Go.Proofs.YtoaaklhpmhjhkabGreat
