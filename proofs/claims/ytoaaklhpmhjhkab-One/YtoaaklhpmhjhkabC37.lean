import Derived.Deep.MidRow
import Derived.Test.YtoaaklhpmhjhkabC36
set_option maxRecDepth 100000
set_option maxHeartbeats 4000000
set_option linter.all false
namespace Go.Proofs.Ytoaaklhpmhjhkab
open Go.RowKit
theorem Wy:(Try.prog.info? 28).map (·.size)=some 7:=by kernel_rfl
def Wm:Array Value:=#[.int .i64 0,.slice none 0 0,.slice none 0 0,.slice none 0 0,.slice none 0 0,.slice none 0 0,.slice none 0 0]
theorem SK (w:World):(zeroValue 28).run Try.prog w=.ok (.agg #[.int .i64 0,.slice none 0 0,.slice none 0 0,.slice none 0 0,.slice none 0 0,.slice none 0 0,.slice none 0 0]) w:=by
 have h:(Try.prog.info? 28).bind (·.zero)=some (.agg #[.int .i64 0,.slice none 0 0,.slice none 0 0,.slice none 0 0,.slice none 0 0,.slice none 0 0,.slice none 0 0]):=by kernel_rfl
 cases hq:Try.prog.info? 28 with
 |none=>rw[hq]at h;cases h
 |some i=>rw[hq]at h;simp at h;simp[zeroValue,typeInfo,hq,h]
variable {tmps : Array Value}{fn : Func}{ck : List Int}{B b base cap g n : Nat}{v vb vb' vc vn : Value}{W W' W1 w w' w5 : World}
theorem Xg.block {f:Nat->Int} (h:Xg g f n w) (hb:w'.heap[g]?=w.heap[g]?):Xg g f n w':=fun k hk=>by
 rw[World.cell?_of_block (w:=w) (a:=⟨g,k,none⟩) hb,World.frozen?_of_block (w:=w) (a:=⟨g,k,none⟩) hb];exact h k hk
variable {u : Tmp}
theorem Q7 {p:Tmp}{ty:TypeId} (h:fn.results=#[.cell p ty,.tmp u]) (tmps:Array Value) (P:Program) (w:World):
  (results fn tmps).run P w=((asAddr (tmps.getD p undef)).run P w).andThen fun a w₁=>((loadVar ty a).run P w₁).andThen fun v w₂=>.ok (.tuple #[v,tmps.getD u undef]) w₂:=by
 simp only[results,h];simp[Sem.run_bind,Result.andThen]
variable {P : Program}
theorem UV {p:Tmp}{ty:TypeId}{ad:Addr}{b:Value} (h:fn.results=#[.cell p ty,.tmp u]) (ht:tmps.getD p undef=.pointer (some ad)) (hl:(loadVar ty ad).run P w=.ok v w) (hb:tmps.getD u undef=b):
  (results fn tmps).run P w=.ok (.tuple #[v,b]) w:=by
 rw[Q7 h,ht];subst hb;simp[asAddr,hl]
theorem O9 (w:World) (t:TypeId):(w.alloc (.cells Wm t)).there w.heap.size 0 7:=fun j hj=>by
 unfold Wm;rcases j with _|_|_|_|_|_|_|j<;>first|(refine⟨?_,?_⟩<;>go_simp)|omega
theorem WA {o:Nat} (h:W.there b o n) (hn:0<n) (hB:Below W.heap.size W W'):W'.there b o n:=fun j hj=>by
 have hb:b<W.heap.size:=by
  have h0:=(h 0 hn).1;obtain⟨v,hv⟩:=Option.isSome_iff_exists.1 h0;exact World.block_lt_of_cell? W _ hv
 have hk:=hB.block b hb;rw[World.cell?_of_block (w:=W) (w':=W') (a:=⟨b,o+j,none⟩) hk,World.frozen?_of_block (w:=W) (w':=W') (a:=⟨b,o+j,none⟩) hk];exact h j hj
theorem Lh (ad:Option Addr) (n cap:Nat) (f:Nat->Int) (w w2:World) (hn:n<=17592186044416)
  (hcp:(Builtin.copy_ #[22,22] 3 #[.slice (some ⟨w.heap.size,0,none⟩) n n,.slice ad n cap]).run Try.prog (w.alloc (.cells (We n) 3))=.ok (goInt n) w2)
  (hW2:Below w.heap.size w w2) (hR:Xg w.heap.size f n w2):
  Calls Try.prog 40 #[.slice ad n cap] w fun e w'=>e=.returned (.slice (some ⟨w.heap.size,0,none⟩) n n)/\Xg w.heap.size f n w'/\Below w.heap.size w w':=by
 have hmk:=Nr w n hn;go_enter Try.func40,Try.ntmps40;go_wp2_with fail;go_ret;exact⟨rfl,hR,hW2⟩
theorem Q4 (ad:Option Addr) (n cap:Nat) (f:Nat->Int) (w:World) (hn:n<=17592186044416) (hr:IL ad f n w):
  Calls Try.prog 40 #[.slice ad n cap] w fun e w'=>e=.returned (.slice (some ⟨w.heap.size,0,none⟩) n n)/\Xg w.heap.size f n w'/\Below w.heap.size w w':=by
 obtain⟨w2,h1,h2,h3⟩:=LQ ad n cap n f w (Nat.le_refl _) hr;exact Lh ad n cap f w w2 hn h1 h2 (h3.congr (fun k hk=>by simp[hk]))
open Bm
def Mc.st (M:Mc):Pk.St:=Pk.run M.nx M.k M.nlb
def Wz (M:Mc):Tb where
 rules:=M.rules
 cl:=M.cl
 ncl:=M.ncl
 lb:=M.lb
 nlb:=M.nlb
 bs:=fun i=>M.st.bs.getD i 0
 nbs:=M.st.bs.length
 df:=fun i=>M.st.df.getD i 0
 ndf:=M.st.df.length
 ck:=fun i=>M.st.ck.getD i 0
 nck:=M.st.ck.length
 nx:=fun i=>M.st.nt.getD i 0
 nnx:=M.st.nt.length
def Ur (u v:Value):Prop:=∀k,u.ownBlock=some k->v.ownBlock≠some k
theorem Ur.symm {u:Value} (h:Ur u v):Ur v u:=fun k h1 h2=>h k h2 h1
structure Tu (w:World) (M:Mc) (A:Vj) (rb tb g1 g2 ob cb base:Nat) (ck nt bs df:List Int) (vb vd vc vn:Value) (W:World):Prop where
 z:W.there rb 0 7
 t:TC tb [.int .i64 M.rules,.slice (some ⟨g1,0,none⟩) M.ncl M.ncl,.slice (some ⟨g2,0,none⟩) M.nlb M.nlb,vb,vd,.slice none 0 0,.slice none 0 0] W
 k1:Xg g1 M.cl M.ncl W
 k2:Xg g2 M.lb M.nlb W
 r0:TC ob [.int .i64 M.k,.slice A.a3 M.nnx A.c3] W
 c:Cs base cb vc vn ck nt W
 b:OwnL base vb bs W
 d:OwnL base vd df W
 bd:Ur vb vd
 bc:Ur vb vc
 bn:Ur vb vn
 dc:Ur vd vc
 dn:Ur vd vn
 bel:Below w.heap.size w W
 bw:base<=W.heap.size
 o0:w.heap.size<=rb
 o1:rb<tb
 o2:tb<g1
 o3:g1<g2
 o4:g2<ob
 o5:ob<cb
theorem UI {o:Nat} (h:W.there b o n) (hk:W'.heap[b]?=W.heap[b]?):W'.there b o n:=fun j hj=>by
 rw[World.cell?_of_block (w:=W) (w':=W') (a:=⟨b,o+j,none⟩) hk,World.frozen?_of_block (w:=W) (w':=W') (a:=⟨b,o+j,none⟩) hk];exact h j hj
variable {M : Mc}{tb : Nat}
theorem Tu.move {A:Vj}{rb g1 g2 ob cb:Nat}{nt bs df ck' nt' bs' df':List Int}{vd vd' vc' vn':Value} (h:Tu w M A rb tb g1 g2 ob cb base ck nt bs df vb vd vc vn W)
  (hk:∀q,q<base->q≠tb->q≠cb->W'.heap[q]?=W.heap[q]?) (hz:W.heap.size<=W'.heap.size)
  (ht:TC tb [.int .i64 M.rules,.slice (some ⟨g1,0,none⟩) M.ncl M.ncl,.slice (some ⟨g2,0,none⟩) M.nlb M.nlb,vb',vd',.slice none 0 0,.slice none 0 0] W')
  (hc:Cs base cb vc' vn' ck' nt' W') (hb:OwnL base vb' bs' W') (hd:OwnL base vd' df' W') (bd:Ur vb' vd') (bc:Ur vb' vc') (bn:Ur vb' vn') (dc:Ur vd' vc') (dn:Ur vd' vn') (hB:Below w.heap.size w W'):
  Tu w M A rb tb g1 g2 ob cb base ck' nt' bs' df' vb' vd' vc' vn' W':=by
 have h0:=h.o0;have h1:=h.o1;have h2:=h.o2;have h3:=h.o3;have h4:=h.o4;have h5:=h.o5;have h6:=h.c.lt;exact⟨UI h.z (hk _ (by omega) (by omega) (by omega)),ht,h.k1.block (hk _ (by omega) (by omega) (by omega)),h.k2.block (hk _ (by omega) (by omega) (by omega)),
  h.r0.block (hk _ (by omega) (by omega) (by omega)),hc,hb,hd,bd,bc,bn,dc,dn,hB,Nat.le_trans h.bw hz,h0,h1,h2,h3,h4,h5⟩
theorem Tu.below {A:Vj}{rb g1 g2 ob cb:Nat}{nt bs df:List Int}{vd:Value} (h:Tu w M A rb tb g1 g2 ob cb base ck nt bs df vb vd vc vn W) (hW:Below W.heap.size W W'):
  Tu w M A rb tb g1 g2 ob cb base ck nt bs df vb vd vc vn W':=
 h.move (fun q hq _ _=>hW.block q (Nat.lt_of_lt_of_le hq h.bw)) hW.size (h.t.below hW) (h.c.below hW) (h.b.below hW) (h.d.below hW) h.bd h.bc h.bn h.dc h.dn (h.bel.trans (hW.mono h.bel.size))
theorem Tu.rw {A:Vj}{rb g1 g2 ob cb:Nat}{nt bs df:List Int}{vd:Value} (h:Tu w M A rb tb g1 g2 ob cb base ck nt bs df vb vd vc vn W) (hI:SM M A w):Rw ob M.k A.a3 M.nnx A.c3 M.nx W:=
 ⟨(h.r0 0 _ rfl).1,(h.r0 1 _ rfl).1,hI.l3.below h.bel⟩
theorem Tu.put {A:Vj}{rb g1 g2 ob cb:Nat}{nt bs df ck' nt':List Int}{vd vc' vn':Value} (h:Tu w M A rb tb g1 g2 ob cb base ck nt bs df vb vd vc vn W)
  (hc:Cs base cb vc' vn' ck' nt' W') (hp:Xo cb vc vn vc' vn' W W'):Tu w M A rb tb g1 g2 ob cb base ck' nt' bs df vb vd vc' vn' W':=by
 have h5:=h.o5;have hbw:=h.bw;have hcb:=h.c.c.blk;have hnb:=h.c.n.blk;have low:∀q,q<base->q≠cb->W'.heap[q]?=W.heap[q]?:=fun q hq h0=>hp.kept q (by omega) h0 (fun e=>by have:=(hcb q e).1;omega) (fun e=>by have:=(hnb q e).1;omega)
 have fresh:∀(u:Value) (l:List Int),OwnL base u l W->Ur u vc->Ur u vn->OwnL base u l W'/\Ur u vc'/\Ur u vn':=fun u l hu n1 n2=>by
  refine⟨hu.keep (fun k hk=>hp.kept k (hu.blk k hk).2 (by have:=(hu.blk k hk).1;have:=h.c.lt;omega) (n1 k hk) (n2 k hk)),fun k hk e=>?_,fun k hk e=>?_⟩
  ·rcases hp.oc k e with e|e
   ·exact n1 k hk e
   ·have:=(hu.blk k hk).2;omega
  ·rcases hp.on k e with e|e
   ·exact n2 k hk e
   ·have:=(hu.blk k hk).2;omega
 obtain⟨b1,b2,b3⟩:=fresh vb bs h.b h.bc h.bn;obtain⟨d1,d2,d3⟩:=fresh vd df h.d h.dc h.dn;have h0:=h.o0;have h1:=h.o1;have h2:=h.o2;have h3:=h.o3;have h4:=h.o4;have hlt:=h.c.lt;exact h.move (fun q hq _ hn=>low q hq hn) hp.bel.size (h.t.block (low _ (by omega) (by omega))) hc b1 d1 h.bd b2 b3 d2 d3 (h.bel.trans (hp.bel.mono (by omega)))
theorem Tu.ready {A:Vj}{rb g1 g2 ob cb:Nat}{nt bs df:List Int}{vd:Value} (x:Int) (h:Tu w M A rb tb g1 g2 ob cb base ck nt bs df vb vd vc vn W):
  OwnL base vd df (W.alloc (.cells #[.int .i64 x] 3))/\OwnL base vb bs (W.alloc (.cells #[.int .i64 x] 3))/\(W.alloc (.cells #[.int .i64 x] 3)).cell? ⟨W.heap.size,0,none⟩=some (.int .i64 x)/\base<=(W.alloc (.cells #[.int .i64 x] 3)).heap.size /\
  (∀w5,(W.alloc (.cells #[.int .i64 x] 3)).grownBy w5 vd.ownBlock->w5.cell? ⟨tb,4,none⟩=some vd/\w5.frozen? ⟨tb,4,none⟩=false) /\
  (∀w5,(W.alloc (.cells #[.int .i64 x] 3)).grownBy w5 vb.ownBlock->w5.cell? ⟨tb,3,none⟩=some vb/\w5.frozen? ⟨tb,3,none⟩=false):=by
 have hx:=box_bel W (.cells #[.int .i64 x] 3);have h2:=h.o2;have h3:=h.o3;have h4:=h.o4;have h5:=h.o5;have h6:=h.c.lt;refine⟨h.d.below hx,h.b.below hx,by rw[World.cell?_alloc_new];rfl,Nat.le_trans h.bw hx.size,fun w5 hg=>?_,fun w5 hg=>?_⟩
 ·exact((h.t.below hx).block (hg.block _ (Nat.lt_of_lt_of_le h.t.lt hx.size) (fun e=>by have:=(h.d.blk _ e.symm).1;omega))) 4 _ rfl
 ·exact((h.t.below hx).block (hg.block _ (Nat.lt_of_lt_of_le h.t.lt hx.size) (fun e=>by have:=(h.b.blk _ e.symm).1;omega))) 3 _ rfl
theorem UE {u v v':Value}{g n cap:Nat}{W W1:World} (hv':v'=.slice (some ⟨g,0,none⟩) n cap) (hgb:v.ownBlock=some g\/g=W1.heap.size) (hz:W.heap.size<=W1.heap.size) (hu:∀k,u.ownBlock=some k->k<W.heap.size) (hn:Ur v u):Ur v' u:=by
 intro k hk e;rw[hv']at hk;have e2:g=k:=Option.some.inj hk;rcases hgb with h1|h1
 ·rw[e2]at h1;exact hn k h1 e
 ·have:=hu k e;omega
theorem Tu.pushD {A:Vj}{rb g1 g2 ob cb:Nat}{nt bs df:List Int}{vd:Value}{x:Int}{o:Obj} (h:Tu w M A rb tb g1 g2 ob cb base ck nt bs df vb vd vc vn W) (hW1:W1=W.alloc o)
  (h5:OwnL base (.slice (some ⟨g,0,none⟩) (df.length+1) cap) (df++[x]) w5) (hg:W1.grownBy w5 vd.ownBlock) (hgb:vd.ownBlock=some g\/g=W1.heap.size):
  Tu w M A rb tb g1 g2 ob cb base ck nt bs (df++[x]) vb (.slice (some ⟨g,0,none⟩) (df.length+1) cap) vc vn (w5.setCell ⟨tb,4,none⟩ (.slice (some ⟨g,0,none⟩) (df.length+1) cap)):=by
 have x1:Below W.heap.size W W1:=by rw[hW1];exact box_bel _ _
 have hz1:W1.heap.size=W.heap.size+1:=by rw[hW1];simp
 have k1:=h.below x1;have h0:=h.o0;have h1:=h.o1;have h2:=h.o2;have h3:=h.o3;have h4:=h.o4;have h6:=h.o5;have h7:=h.c.lt;have h8:=h.bw;have hgc:=(h5.blk g rfl).1;have hdb:=h.d.blk;have hb:∀k,k≠tb->(w5.setCell ⟨tb,4,none⟩ (.slice (some ⟨g,0,none⟩) (df.length+1) cap)).heap[k]?=w5.heap[k]?:=fun k hk=>Below.heap_setCell w5 ⟨tb,4,none⟩ _ k (fun e=>hk e)
 have kp:∀q,q<W1.heap.size->q≠tb->vd.ownBlock≠some q->(w5.setCell ⟨tb,4,none⟩ (.slice (some ⟨g,0,none⟩) (df.length+1) cap)).heap[q]?=W1.heap[q]?:=fun q hq h0 h1=>by
  rw[hb q h0,hg.block q hq (fun e=>h1 e.symm)]
 have kl:∀(u:Value) (l:List Int),OwnL base u l W1->Ur vd u->OwnL base u l (w5.setCell ⟨tb,4,none⟩ (.slice (some ⟨g,0,none⟩) (df.length+1) cap)):=fun u l hu hn=>hu.keep (fun k hk=>kp k (hu.blk k hk).2 (by have:=(hu.blk k hk).1;omega) (fun e=>hn k e hk))
 refine k1.move (fun q hq hq1 _=>kp q (by omega) hq1 (fun e=>by have:=(hdb q e).1;omega)) (by have:=hg.size;simpa[World.setCell]using this) ?_ ?_ (kl vb bs k1.b h.bd.symm) (h5.keep (fun k hk=>hb k (by cases hk;show g≠_;omega))) ?_ h.bc h.bn ?_ ?_ ?_
 ·exact(k1.t.block (hg.block _ (by omega) (fun e=>by have:=(hdb _ e.symm).1;omega))).set 4 (by simp) _
 ·refine k1.c.keep (kp cb (by omega) (by omega) (fun e=>by have:=(hdb _ e).1;omega)) (fun k hk=>kp k (k1.c.c.blk k hk).2 (by have:=(k1.c.c.blk k hk).1;omega) (fun e=>h.dc k e hk)) (fun k hk=>kp k (k1.c.n.blk k hk).2 (by have:=(k1.c.n.blk k hk).1;omega) (fun e=>h.dn k e hk))
 ·exact(UE rfl hgb (by omega) (fun k hk=>(h.b.blk k hk).2) h.bd.symm).symm
 ·exact UE rfl hgb (by omega) (fun k hk=>(h.c.c.blk k hk).2) h.dc
 ·exact UE rfl hgb (by omega) (fun k hk=>(h.c.n.blk k hk).2) h.dn
 ·exact(k1.bel.grown hg (by omega) (fun q hq=>by have:=(hdb q hq).1;omega)).setCell (p:=⟨tb,4,none⟩) (show w.heap.size<=tb by omega) _
theorem Tu.pushB {A:Vj}{rb g1 g2 ob cb:Nat}{nt bs df:List Int}{vd:Value}{x:Int}{o:Obj} (h:Tu w M A rb tb g1 g2 ob cb base ck nt bs df vb vd vc vn W) (hW1:W1=W.alloc o)
  (h5:OwnL base (.slice (some ⟨g,0,none⟩) (bs.length+1) cap) (bs++[x]) w5) (hg:W1.grownBy w5 vb.ownBlock) (hgb:vb.ownBlock=some g\/g=W1.heap.size):
  Tu w M A rb tb g1 g2 ob cb base ck nt (bs++[x]) df (.slice (some ⟨g,0,none⟩) (bs.length+1) cap) vd vc vn (w5.setCell ⟨tb,3,none⟩ (.slice (some ⟨g,0,none⟩) (bs.length+1) cap)):=by
 have x1:Below W.heap.size W W1:=by rw[hW1];exact box_bel _ _
 have hz1:W1.heap.size=W.heap.size+1:=by rw[hW1];simp
 have k1:=h.below x1;have h0:=h.o0;have h1:=h.o1;have h2:=h.o2;have h3:=h.o3;have h4:=h.o4;have h6:=h.o5;have h7:=h.c.lt;have h8:=h.bw;have hgc:=(h5.blk g rfl).1;have hdb:=h.b.blk;have hb:∀k,k≠tb->(w5.setCell ⟨tb,3,none⟩ (.slice (some ⟨g,0,none⟩) (bs.length+1) cap)).heap[k]?=w5.heap[k]?:=fun k hk=>Below.heap_setCell w5 ⟨tb,3,none⟩ _ k (fun e=>hk e)
 have kp:∀q,q<W1.heap.size->q≠tb->vb.ownBlock≠some q->(w5.setCell ⟨tb,3,none⟩ (.slice (some ⟨g,0,none⟩) (bs.length+1) cap)).heap[q]?=W1.heap[q]?:=fun q hq h0 h1=>by
  rw[hb q h0,hg.block q hq (fun e=>h1 e.symm)]
 have kl:∀(u:Value) (l:List Int),OwnL base u l W1->Ur vb u->OwnL base u l (w5.setCell ⟨tb,3,none⟩ (.slice (some ⟨g,0,none⟩) (bs.length+1) cap)):=fun u l hu hn=>hu.keep (fun k hk=>kp k (hu.blk k hk).2 (by have:=(hu.blk k hk).1;omega) (fun e=>hn k e hk))
 refine k1.move (fun q hq hq1 _=>kp q (by omega) hq1 (fun e=>by have:=(hdb q e).1;omega)) (by have:=hg.size;simpa[World.setCell]using this) ?_ ?_ (h5.keep (fun k hk=>hb k (by cases hk;show g≠_;omega))) (kl vd df k1.d h.bd) ?_ ?_ ?_ h.dc h.dn ?_
 ·exact(k1.t.block (hg.block _ (by omega) (fun e=>by have:=(hdb _ e.symm).1;omega))).set 3 (by simp) _
 ·refine k1.c.keep (kp cb (by omega) (by omega) (fun e=>by have:=(hdb _ e).1;omega)) (fun k hk=>kp k (k1.c.c.blk k hk).2 (by have:=(k1.c.c.blk k hk).1;omega) (fun e=>h.bc k e hk)) (fun k hk=>kp k (k1.c.n.blk k hk).2 (by have:=(k1.c.n.blk k hk).1;omega) (fun e=>h.bn k e hk))
 ·exact UE rfl hgb (by omega) (fun k hk=>(h.d.blk k hk).2) h.bd
 ·exact UE rfl hgb (by omega) (fun k hk=>(h.c.c.blk k hk).2) h.bc
 ·exact UE rfl hgb (by omega) (fun k hk=>(h.c.n.blk k hk).2) h.bn
 ·exact(k1.bel.grown hg (by omega) (fun q hq=>by have:=(hdb q hq).1;omega)).setCell (p:=⟨tb,3,none⟩) (show w.heap.size<=tb by omega) _
theorem JS (nx:Nat->Int) (n s b:Nat) (l:List Nat) (p:List Int × List Int) (i c:Nat) (h:l[i]?=some c):
  Pk.lay nx n s b (l.take (i+1)) p=(Pk.put (Pk.lay nx n s b (l.take i) p).1 (b+c) s,Pk.put (Pk.lay nx n s b (l.take i) p).2 (b+c) (Pk.ld nx n s c)):=by
 rw[List.take_add_one,h,Pk.lay_append];rfl
structure Gk (B:Nat) (M:Mc) (g1 g2:Nat) (vb vd vc vn:Value) (W:World):Prop where
 k1:Xg g1 M.cl M.ncl W
 k2:Xg g2 M.lb M.nlb W
 b:OwnL B vb M.st.bs W
 d:OwnL B vd M.st.df W
 c:OwnL B vc M.st.ck W
 n:OwnL B vn M.st.nt W
 bd:Ur vb vd
 bc:Ur vb vc
 bn:Ur vb vn
 dc:Ur vd vc
 dn:Ur vd vn
 cn:Ur vc vn
 o1:B<=g1
 o2:g1<g2
 o3:∀k,(vb.ownBlock=some k\/vd.ownBlock=some k\/vc.ownBlock=some k\/vn.ownBlock=some k)->g2<k
def XL (M:Mc) (g1 g2:Nat) (vb vd vc vn:Value):Array Value:=#[.int .i64 M.rules,.slice (some ⟨g1,0,none⟩) M.ncl M.ncl,.slice (some ⟨g2,0,none⟩) M.nlb M.nlb,vb,vd,vc,vn]
def UQ (M:Mc) (w:World) (e:Ending) (w':World):Prop:=
 Below w.heap.size w w'/\((¬Wc M/\e=.returned (.tuple #[.agg Wm,.int .i64 10])) \/
  (Wc M/\∃g1 g2 vb vd vc vn,e=.returned (.tuple #[.agg (XL M g1 g2 vb vd vc vn),.int .i64 0])/\Gk w.heap.size M g1 g2 vb vd vc vn w'))
theorem J1 (hth:W.there w.heap.size 0 7) (hB:Below w.heap.size w W) (hD:¬Wc M):
  ∃W',W'=W.setCells w.heap.size 0 Wm.toList/\(loadVar 28 ⟨w.heap.size,0,none⟩).run Try.prog W'=.ok (.agg Wm) W'/\UQ M w (.returned (.tuple #[.agg Wm,.int .i64 10])) W':=by
 refine⟨_,rfl,?_,?_,Or.inl ⟨hD,rfl⟩⟩
 ·exact run_loadVar_mid (P:=Try.prog) _ w.heap.size 0 28 Wm.toList _ (World.rangeAt_setCells_same W w.heap.size 0 Wm.toList hth) Try.underlying28 rfl Wy
 ·exact hB.grown (Y4 w.heap.size Wm.toList 0 W) hB.size (fun q hq=>by cases hq;exact Nat.le_refl _)
theorem Ny (w:World):(zeroValue 136).run Try.prog w=.ok (.agg #[.slice none 0 0,.slice none 0 0]) w:=by
 go_simp
theorem Bm.OwnL.one {l:List Int} (h:OwnL B v l w):v.oneCell'=true:=by
 obtain⟨a,c,h1,_⟩:=h.il;rw[h1];rfl
theorem Tu.last {A:Vj}{rb g1 g2 ob cb:Nat}{nt bs df:List Int}{vd:Value} (h:Tu w M A rb tb g1 g2 ob cb base ck nt bs df vb vd vc vn W) (hS:Wc M) (he:Mc.st M=⟨ck,nt,bs,df⟩):
  TC tb [.int .i64 M.rules,.slice (some ⟨g1,0,none⟩) M.ncl M.ncl,.slice (some ⟨g2,0,none⟩) M.nlb M.nlb,vb,vd,vc,.slice none 0 0] (W.setCell ⟨tb,5,none⟩ vc) /\
  (W.setCell ⟨tb,5,none⟩ vc).cell? ⟨cb,1,none⟩=some vn /\
  ((W.setCell ⟨tb,5,none⟩ vc).setCell ⟨tb,6,none⟩ vn).rangeAt tb 0 [.int .i64 M.rules,.slice (some ⟨g1,0,none⟩) M.ncl M.ncl,.slice (some ⟨g2,0,none⟩) M.nlb M.nlb,vb,vd,vc,vn] /\
  ((W.setCell ⟨tb,5,none⟩ vc).setCell ⟨tb,6,none⟩ vn).there rb 0 7 /\
  ∃W',W'=((W.setCell ⟨tb,5,none⟩ vc).setCell ⟨tb,6,none⟩ vn).setCells rb 0 (XL M g1 g2 vb vd vc vn).toList/\(loadVar 28 ⟨rb,0,none⟩).run Try.prog W'=.ok (.agg (XL M g1 g2 vb vd vc vn)) W'/\UQ M w (.returned (.tuple #[.agg (XL M g1 g2 vb vd vc vn),.int .i64 0])) W':=by
 have h0:=h.o0;have h1:=h.o1;have h2:=h.o2;have h3:=h.o3;have h4:=h.o4;have h5:=h.o5;have h7:=h.c.lt;have h8:=h.bw;have t5:=h.t.set 5 (by simp) vc;have t6:=t5.set 6 (by simp) vn;obtain⟨W5,hW5⟩:=nam (W.setCell ⟨tb,5,none⟩ vc);obtain⟨W6,hW6⟩:=nam (W5.setCell ⟨tb,6,none⟩ vn);have hk5:∀q,q≠tb->W5.heap[q]?=W.heap[q]?:=fun q hq=>by rw[hW5];exact Below.heap_setCell W ⟨tb,5,none⟩ _ q (fun e=>hq e)
 have hk6:∀q,q≠tb->W6.heap[q]?=W.heap[q]?:=fun q hq=>by rw[hW6,Below.heap_setCell W5 ⟨tb,6,none⟩ _ q (fun e=>hq e),hk5 q hq]
 have hb6:Below w.heap.size w W6:=by
  rw[hW6,hW5];exact(h.bel.setCell (p:=⟨tb,5,none⟩) (show w.heap.size<=tb by omega) _).setCell (p:=⟨tb,6,none⟩) (show w.heap.size<=tb by omega) _
 have hth:W6.there rb 0 7:=UI h.z (hk6 rb (by omega));rw[<-hW5]at t5 t6 ⊢;rw[<-hW6]at t6 ⊢;refine⟨t5,?_,t6.range,hth,_,rfl,?_,?_,Or.inr ⟨hS,g1,g2,vb,vd,vc,vn,rfl,?_⟩⟩
 ·rw[World.cell?_of_block (w:=W) (a:=⟨cb,1,none⟩) (hk5 cb (by omega))];exact(h.c.s 1 _ rfl).1
 ·exact run_loadVar_mid (P:=Try.prog) _ rb 0 28 (XL M g1 g2 vb vd vc vn).toList _ (World.rangeAt_setCells_same W6 rb 0 (XL M g1 g2 vb vd vc vn).toList hth) Try.underlying28 rfl Wy
 ·exact hb6.grown (Y4 rb _ 0 W6) hb6.size (fun q hq=>by cases hq;exact h0)
 ·have hg:=Y4 rb (XL M g1 g2 vb vd vc vn).toList 0 W6;have hsz:W.heap.size<=W6.heap.size:=by rw[hW6,hW5];simp[World.setCell]
  have hk:∀q,q<W.heap.size->q≠tb->q≠rb->(W6.setCells rb 0 (XL M g1 g2 vb vd vc vn).toList).heap[q]?=W.heap[q]?:=fun q hq hq1 hq2=>by
   rw[hg.block q (by omega) (fun e=>hq2 (Option.some.inj e)),hk6 q hq1]
  have e1:M.st.ck=ck:=by rw[he]
  have e2:M.st.nt=nt:=by rw[he]
  have e3:M.st.bs=bs:=by rw[he]
  have e4:M.st.df=df:=by rw[he]
  have kl:∀(u:Value) (l:List Int),OwnL base u l W->OwnL w.heap.size u l (W6.setCells rb 0 (XL M g1 g2 vb vd vc vn).toList):=fun u l hu=>
   (hu.keep (fun k hk2=>hk k (hu.blk k hk2).2 (by have:=(hu.blk k hk2).1;omega) (by have:=(hu.blk k hk2).1;omega))).mono (by omega)
  refine⟨h.k1.block (hk _ (by omega) (by omega) (by omega)),h.k2.block (hk _ (by omega) (by omega) (by omega)),by rw[e3];exact kl vb bs h.b,by rw[e4];exact kl vd df h.d,by rw[e1];exact kl vc ck h.c.c,by rw[e2];exact kl vn nt h.c.n,h.bd,h.bc,h.bn,h.dc,h.dn,h.c.ne,by omega,by omega,fun k hk2=>?_⟩;rcases hk2 with e|e|e|e
  ·have:=(h.b.blk k e).1;omega
  ·have:=(h.d.blk k e).1;omega
  ·have:=(h.c.c.blk k e).1;omega
  ·have:=(h.c.n.blk k e).1;omega
theorem Rk (mb:Nat) (M:Mc) (A:Vj) (w:World) (hs:NC M) (hA:WT mb M A w) (hI:SM M A w):
  Calls Try.prog 36 #[.pointer (some ⟨mb,0,none⟩)] w (UQ M w):=by
 have hz:=SK;have hz2:=Ny;obtain⟨W0,hW0⟩:∃W,W=w.alloc (.cells #[.int .i64 0,.slice none 0 0,.slice none 0 0,.slice none 0 0,.slice none 0 0,.slice none 0 0,.slice none 0 0] 28):=⟨_,rfl⟩;have hT0:W0.there w.heap.size 0 7:=by rw[hW0];exact O9 w _
 have hB0:Below w.heap.size w W0:=by rw[hW0];exact Xu _ _
 have hS0:w.heap.size<W0.heap.size:=by rw[hW0];simp
 have HS:Hid (Calls Try.prog 62 #[.pointer (some ⟨mb,0,none⟩)] W0 (V8 (Wc M) W0)):=QL mb M A W0 hs (hA.below hB0) (hI.below hB0);have HI:Hid (SM M A w):=hI;have HA:Hid (WT mb M A w):=hA;have Hsz:Hid (NC M):=hs;clear hA hI hs;go_enter Try.func36,Try.ntmps36;go_wp2_with fail;rw[<-hW0];clear hW0;refine HS.out.mono ?_;rintro e w1 ⟨p,rfl,hp,hB1⟩;have Hp:Hid (p=true<->Wc M):=hp;have hT1:=WA hT0 (by omega) hB1;have hBw1:=hB0.trans (hB1.mono hB0.size);have hS1:w.heap.size<w1.heap.size:=Nat.lt_of_lt_of_le hS0 hB1.size;clear hp hT0 hB0 hS0 hB1 HS;cases p
 ·obtain⟨W1,hW1,hl1,hp1⟩:=J1 hT1 hBw1 (fun h=>by have:=Hp.out.2 h;cases this);have HP1:Hid (UQ M w (.returned (.tuple #[.agg Wm,.int .i64 10])) W1):=hp1;have HW1:Hid (W1=w1.setCells w.heap.size 0 Wm.toList):=hW1;have HL1:Hid ((loadVar 28 ⟨w.heap.size,0,none⟩).run Try.prog W1=.ok (.agg Wm) W1):=hl1;clear hp1 hW1 hl1;go_wp2_with (first|(refine wpList_store_mid rfl 28 _ _ rfl w.heap.size 0 Wm rfl rfl hT1 Wy (by simp[Wm,Value.oneCell']) ?_;rw[<-HW1.out]));refine bodyPost_ret (v:=.tuple #[.agg Wm,.int .i64 10]) (UV Try.results36 rfl HL1.out rfl) rfl HP1.out
 have HSn:Hid (Wc M):=Hp.out.1 rfl;clear Hp;have hcl:M.ncl=256:=by
  have hp:=HSn.out.hd.2.2.1;unfold Vo at hp;by_cases e:M.ncl=256
  ·exact e
  ·rw[if_neg e]at hp;omega
 have Hcl:Hid (M.ncl=256):=hcl;have hlb:=HSn.out.hd.2.1;have hk:M.k<=256:=Q3 _ _;have hnn:M.nnx<=24576:=by rw[HSn.out.e];exact Nat.mul_le_mul hlb.2 hk
 have Hrow:Hid (∀s,s<M.nlb->s*M.k+M.k<=M.nnx):=fun s hs'=>by
  rw[HSn.out.e,<-Nat.succ_mul];exact Nat.mul_le_mul_right _ hs'
 obtain⟨W2,hW2⟩:∃W,W=w1.alloc (.cells #[.int .i64 M.rules,.slice none 0 0,.slice none 0 0,.slice none 0 0,.slice none 0 0,.slice none 0 0,.slice none 0 0] 28):=⟨_,rfl⟩;have x1:Below w1.heap.size w1 W2:=by rw[hW2];exact Xu _ _
 have t2:TC w1.heap.size [.int .i64 M.rules,.slice none 0 0,.slice none 0 0,.slice none 0 0,.slice none 0 0,.slice none 0 0,.slice none 0 0] W2:=by
  rw[hW2];exact TC.boxed w1 _ _
 have z2:W2.heap.size=w1.heap.size+1:=by rw[hW2];simp
 have m0:=((HA.out.below hBw1).below (Xu w1 (.cells #[.int .i64 0,.slice none 0 0,.slice none 0 0,.slice none 0 0,.slice none 0 0,.slice none 0 0,.slice none 0 0] 28))).c0;have bw2:=hBw1.trans (x1.mono hBw1.size);have T2:=WA hT1 (by omega) x1;have m1:=(HA.out.below bw2).c1;rw[hW2]at m1;have HC1:Hid (Calls Try.prog 40 #[.slice A.a1 M.ncl A.c1] W2 fun e w'=>e=.returned (.slice (some ⟨W2.heap.size,0,none⟩) M.ncl M.ncl)/\Xg W2.heap.size M.cl M.ncl w'/\Below W2.heap.size W2 w'):=Q4 _ _ _ _ _ (by have:=Hsz.out.s1;omega) (HI.out.below bw2).l1;clear hcl;have Hz2:Hid (W2.heap.size=w1.heap.size+1):=z2;clear z2;go_wp2_with fail;rw[<-hW2];clear hW2 m0 m1;refine HC1.out.mono ?_;rintro e w3 ⟨rfl,n3,b3⟩;clear HC1;have T3:=WA T2 (by omega) b3;have t3:=t2.below b3;have bw3:=bw2.trans (b3.mono bw2.size);obtain⟨W4,hW4⟩:∃W,W=w3.setCell ⟨w1.heap.size,1,none⟩ (.slice (some ⟨W2.heap.size,0,none⟩) M.ncl M.ncl):=⟨_,rfl⟩;have k4:∀q,q≠w1.heap.size->W4.heap[q]?=w3.heap[q]?:=fun q hq=>by rw[hW4];exact Below.heap_setCell w3 ⟨w1.heap.size,1,none⟩ _ q (fun e=>hq e)
 have t4:=t3.set 1 (by simp) (.slice (some ⟨W2.heap.size,0,none⟩) M.ncl M.ncl);rw[<-hW4]at t4;have bw4:Below w.heap.size w W4:=by rw[hW4];exact bw3.setCell (p:=⟨w1.heap.size,1,none⟩) (Nat.le_of_lt hS1) _
 have hg12:w1.heap.size<W2.heap.size:=by rw[Hz2.out];omega
 have n4:Xg W2.heap.size M.cl M.ncl W4:=n3.block (k4 _ (by omega));have T4:W4.there w.heap.size 0 7:=UI T3 (k4 _ (by omega));have z4:W4.heap.size=w3.heap.size:=by rw[hW4];simp[World.setCell]
 have hg3:W2.heap.size<w3.heap.size:=n3.lt (by rw[Hcl.out];omega);obtain⟨q1,q1f⟩:=t3 1 _ rfl;have m2:=(HA.out.below bw4).c2;rw[hW4]at m2;have HC2:Hid (Calls Try.prog 40 #[.slice A.a2 M.nlb A.c2] W4 fun e w'=>e=.returned (.slice (some ⟨W4.heap.size,0,none⟩) M.nlb M.nlb)/\Xg W4.heap.size M.lb M.nlb w'/\Below W4.heap.size W4 w'):=Q4 _ _ _ _ _ (by have:=Hsz.out.s2;omega) (HI.out.below bw4).l2;have Hz4:Hid (W4.heap.size=w3.heap.size):=z4;have Hk4:Hid (∀q,q≠w1.heap.size->W4.heap[q]?=w3.heap[q]?):=k4;clear z4 k4 t2 t3 T2 T3 n3;go_wp2_with fail;rw[<-hW4];clear hW4 m2 q1 q1f;refine HC2.out.mono ?_;rintro e w5 ⟨rfl,n5,b5⟩;clear HC2;have T5:=WA T4 (by omega) b5;have t5:=t4.below b5;have bw5:=bw4.trans (b5.mono bw4.size);have n4':=n4.below b5;have hg4:W2.heap.size<W4.heap.size:=by rw[Hz4.out];exact hg3
 obtain⟨W6,hW6⟩:∃W,W=w5.setCell ⟨w1.heap.size,2,none⟩ (.slice (some ⟨W4.heap.size,0,none⟩) M.nlb M.nlb):=⟨_,rfl⟩;have k6:∀q,q≠w1.heap.size->W6.heap[q]?=w5.heap[q]?:=fun q hq=>by rw[hW6];exact Below.heap_setCell w5 ⟨w1.heap.size,2,none⟩ _ q (fun e=>hq e)
 have t6:=t5.set 2 (by simp) (.slice (some ⟨W4.heap.size,0,none⟩) M.nlb M.nlb);rw[<-hW6]at t6;have bw6:Below w.heap.size w W6:=by rw[hW6];exact bw5.setCell (p:=⟨w1.heap.size,2,none⟩) (Nat.le_of_lt hS1) _
 have n6:Xg W2.heap.size M.cl M.ncl W6:=n4'.block (k6 _ (by omega));have l6:Xg W4.heap.size M.lb M.nlb W6:=n5.block (k6 _ (by omega));have T6:W6.there w.heap.size 0 7:=UI T5 (k6 _ (by omega));have z6:W6.heap.size=w5.heap.size:=by rw[hW6];simp[World.setCell]
 have hg5:W4.heap.size<w5.heap.size:=n5.lt (by omega);obtain⟨q1,q1f⟩:=t5 2 _ rfl;have m1:=(HA.out.below bw6).c1;rw[hW6]at m1;have HC3:Hid (Calls Try.prog 43 #[.slice A.a1 M.ncl A.c1] W6 fun e w'=>e=.returned (.int .i64 M.k)/\w'=W6):=Xz _ _ _ _ _ (by have:=Hsz.out.s1;unfold maxLen;omega) (HI.out.below bw6).l1;have hg6:W4.heap.size<W6.heap.size:=by rw[z6];exact hg5
 have m3:=(HA.out.below bw6).c3;clear z6 k6 t4 t5 T4 T5 n4 n4' n5;go_wp2_with fail;rw[<-hW6];clear hW6 m1 q1 q1f;refine HC3.out.mono ?_;rintro e W6 ⟨rfl,rfl⟩;clear HC3;obtain⟨W7,hW7⟩:∃W,W=W6.alloc (.cells #[.int .i64 M.k,.slice A.a3 M.nnx A.c3] 134):=⟨_,rfl⟩;obtain⟨W8,hW8⟩:∃W,W=W7.alloc (.cells #[.slice none 0 0,.slice none 0 0] 136):=⟨_,rfl⟩;have x7:Below W6.heap.size W6 W7:=by rw[hW7];exact Xu _ _
 have x8:Below W7.heap.size W7 W8:=by rw[hW8];exact Xu _ _
 have x68:=x7.trans (x8.mono x7.size);have z7:W7.heap.size=W6.heap.size+1:=by rw[hW7];simp
 have z8:W8.heap.size=W7.heap.size+1:=by rw[hW8];simp
 have r8:TC W6.heap.size [.int .i64 M.k,.slice A.a3 M.nnx A.c3] W8:=by
  have h:TC W6.heap.size [.int .i64 M.k,.slice A.a3 M.nnx A.c3] W7:=by rw[hW7];exact TC.boxed _ _ _
  exact h.below x8
 have c8:TC W7.heap.size [.slice none 0 0,.slice none 0 0] W8:=by rw[hW8];exact TC.boxed _ _ _
 have S0:Tu w M A w.heap.size w1.heap.size W2.heap.size W4.heap.size W6.heap.size W7.heap.size W8.heap.size (Pk.run M.nx M.k 0).ck (Pk.run M.nx M.k 0).nt (Pk.run M.nx M.k 0).bs (Pk.run M.nx M.k 0).df (.slice none 0 0) (.slice none 0 0) (.slice none 0 0) (.slice none 0 0) W8:=by
  refine⟨WA T6 (by omega) x68,t6.below x68,n6.below x68,l6.below x68,r8,⟨c8,OwnL.nil _ _,OwnL.nil _ _,fun k hk=>(by cases hk),by omega⟩,OwnL.nil _ _,OwnL.nil _ _,fun k hk=>(by cases hk),fun k hk=>(by cases hk),fun k hk=>(by cases hk),fun k hk=>(by cases hk),fun k hk=>(by cases hk),bw6.trans (x68.mono bw6.size),Nat.le_refl _,Nat.le_refl _,hS1,hg12,hg4,hg6,by omega⟩
 rw[hW7]at hW8;clear x7 x8 x68 r8 c8 T6 t6 n6 l6 hg6 hg5 hg4 hg3 hg12 bw2 bw3 bw4 bw5 b3 b5 hT1 hBw1 x1;have Hz7:Hid (W7.heap.size=W6.heap.size+1):=z7;have HW7:Hid (W7=W6.alloc (.cells #[.int .i64 M.k,.slice A.a3 M.nnx A.c3] 134)):=hW7;clear z7 z8 hW7;go_wp2_with fail;rw[<-hW8];clear hW8 m3 bw6;rw[Hz7.out]at S0;clear Hz7 HW7 Hz2 Hz4 Hk4;generalize W8.heap.size=base at *;generalize W6.heap.size=ob at *;generalize W4.heap.size=g2 at *;generalize W2.heap.size=g1 at *;generalize w1.heap.size=tb at *
 go_loopw [9] (fun x w'=>∃(s:Nat) (vb vd vc vn:Value),s<=M.nlb/\x=.int .i64 s/\Tu w M A w.heap.size tb g1 g2 ob (ob+1) base (Pk.run M.nx M.k s).ck (Pk.run M.nx M.k s).nt (Pk.run M.nx M.k s).bs (Pk.run M.nx M.k s).df vb vd vc vn w') (fun x _=>M.nlb-(intOf x).toNat)
 case atStart=>exact⟨0,_,_,_,_,by omega,rfl,S0⟩
 case round=>
  clear S0;obtain⟨s,vb,vd,vc,vn,hs,rfl,S⟩:=hrel;have m2:=(HA.out.below S.bel).c2;have I:=Pk.inv M.nx M.k s;by_cases hlt:s<M.nlb
  ·have hlt':(s:Int)<(M.nlb:Int):=by omega
   have hckl:(Pk.run M.nx M.k s).ck.length<=24576:=Nat.le_trans I.l2 (Nat.le_trans (Nat.mul_le_mul (show s<=96 by omega) hk) (by omega));have hdl:(Pk.run M.nx M.k s).df.length<=96:=by rw[I.l4];omega
   have hbl:(Pk.run M.nx M.k s).bs.length<=96:=by rw[I.l3];omega
   have hl1:=I.l1;have HN:Hid (Calls Try.prog 63 #[.pointer (some ⟨ob,0,none⟩),.int .i64 s] wr fun e w'=>∃v,e=.returned (.tuple #[.int .i64 (Pk.df M.nx M.k s),v])/\OwnL wr.heap.size v (VP (Pk.own M.nx M.k s)) w'/\Below wr.heap.size wr w'):=LJ ob M.k A.a3 M.nnx A.c3 M.nx s wr (S.rw HI.out) hk hnn (by omega) (Hrow.out s hlt);have Hr1:Hid (Pk.run M.nx M.k (s+1)=Pk.step M.nx M.k (Pk.run M.nx M.k s) s):=rfl;have Hol:Hid ((Pk.own M.nx M.k s).length<=256):=by
    show _<=_;unfold Pk.own;rw[Pk.near_own];exact Nat.le_trans (Pk.dif_len _ _ _ _ _) hk
   have Hom:Hid (∀c∈Pk.own M.nx M.k s,c<M.k):=fun c hc=>Pk.own_lt hc
   unfold Pk.step at Hr1;clear I;generalize Pk.run M.nx M.k s=R at *;generalize Pk.own M.nx M.k s=own at *;have hol:=Hol.out;go_wp2_with fail;refine HN.out.mono ?_;rintro e w2 ⟨v2,rfl,hO2,hB2⟩;have hcv:∀k,v2.ownBlock=some k->wr.heap.size<=k:=fun k hk=>(hO2.blk k hk).1
   have S2:=S.below hB2;have n1:Ur v2 vc:=fun k h1 h2=>by have:=hcv k h1;have:=(S.c.c.blk k h2).2;omega
   have n2:Ur v2 vn:=fun k h1 h2=>by have:=hcv k h1;have:=(S.c.n.blk k h2).2;omega
   have hbs2:base<=wr.heap.size:=S.bw;have HBF:Hid (Calls Try.prog 64 #[.pointer (some ⟨ob+1,0,none⟩),v2] w2 fun e w'=>e=.returned (.int .i64 (Pk.bas R.ck own))/\w'=w2):=NH base (ob+1) vc vn R.ck R.nt _ v2 own w2 S2.c hO2 (by omega) hol (fun c hc=>by have:=Hom.out c hc;omega);obtain⟨bb,hbb⟩:∃bb,bb=Pk.bas R.ck own:=⟨_,rfl⟩;have hbb2:bb<=R.ck.length:=by rw[hbb];exact(Pk.bas_spec _ _).2.1
   rw[<-hbb]at HBF Hr1;have Hlay:Hid (∀i,(Pk.lay M.nx M.k s bb (own.take i) (R.ck,R.nt)).1.length=(Pk.lay M.nx M.k s bb (own.take i) (R.ck,R.nt)).2.length/\(Pk.lay M.nx M.k s bb (own.take i) (R.ck,R.nt)).1.length<=24576+256):=fun i=>by
    have h:=Pk.lay_len M.nx M.k s bb (own.take i) (R.ck,R.nt) hl1 (fun c hc=>Hom.out c (List.mem_of_mem_take hc));refine⟨h.1,?_⟩;have:=h.2.2;simp only at this;omega
   clear hbb HN S m2 hB2;obtain⟨a2,c2,rfl,_⟩:=hO2.il;rw[VJ]at *;have hbbb:bb<=24576:=by omega
   go_wp2_with fail;refine HBF.out.mono ?_;rintro e w2 ⟨rfl,rfl⟩;clear HBF;go_wp2_with fail
   go_loopw [67] (fun x w'=>∃(i:Nat) (vc' vn':Value),i<=own.length/\x=.int .i64 i/\Tu w M A w.heap.size tb g1 g2 ob (ob+1) base (Pk.lay M.nx M.k s bb (own.take i) (R.ck,R.nt)).1 (Pk.lay M.nx M.k s bb (own.take i) (R.ck,R.nt)).2 R.bs R.df vb vd vc' vn' w'/\OwnL base (.slice a2 own.length c2) (VP own) w'/\Ur (.slice a2 own.length c2) vc'/\Ur (.slice a2 own.length c2) vn') (fun x _=>own.length-(intOf x).toNat)
   case atStart=>exact⟨0,vc,vn,by omega,rfl,by rw[List.take_zero];exact S2,hO2.mono hbs2,n1,n2⟩
   case round=>
    clear S2 n1 n2 hO2 hcv hbs2;obtain⟨i,vc',vn',hi,rfl,S3,hO3,n1,n2⟩:=hrel;by_cases hil:i<own.length
    ·have hil':(i:Int)<(own.length:Int):=by omega
     obtain⟨c,hc⟩:∃c,own[i]?=some c:=⟨own[i],List.getElem?_eq_getElem hil⟩;have hck:=Hom.out c (List.mem_of_getElem? hc);obtain⟨ad3,cap3,hv3,il3⟩:=hO3.il;obtain⟨gv,ov,hgv,cv⟩:=il3 i (by rw[VJ];exact hil);have hv4:=(Value.slice.inj hv3).1;rw[hgv]at hv4;subst hv4;simp only[Mp hc]at cv;have HL:Hid (Calls Try.prog 65 #[.pointer (some ⟨ob,0,none⟩),.int .i64 s,.int .i64 c] wr fun e w'=>e=.returned (.int .i64 (Pk.ld M.nx M.k s c))/\Below wr.heap.size wr w'):=Th ob M.k A.a3 M.nnx A.c3 M.nx s c wr (S3.rw HI.out) hk hnn (Or.inr ⟨s,rfl,by omega,Hrow.out s hlt⟩) hck;have HT:Hid (Pk.lay M.nx M.k s bb (own.take (i+1)) (R.ck,R.nt)=(Pk.put (Pk.lay M.nx M.k s bb (own.take i) (R.ck,R.nt)).1 (bb+c) s,Pk.put (Pk.lay M.nx M.k s bb (own.take i) (R.ck,R.nt)).2 (bb+c) (Pk.ld M.nx M.k s c))):=JS M.nx M.k s bb own (R.ck,R.nt) i c hc;obtain⟨ll1,ll2⟩:=Hlay.out i;obtain⟨k,ik⟩:∃k:Nat,(bb:Int)+(c:Int)=(k:Int):=⟨bb+c,by omega⟩;have hkk:k=bb+c:=by omega
     have HPut:Hid (∀w',Tu w M A w.heap.size tb g1 g2 ob (ob+1) base (Pk.lay M.nx M.k s bb (own.take i) (R.ck,R.nt)).1 (Pk.lay M.nx M.k s bb (own.take i) (R.ck,R.nt)).2 R.bs R.df vb vd vc' vn' w'->Calls Try.prog 66 #[.pointer (some ⟨ob+1,0,none⟩),.int .i64 k,.int .i64 s,.int .i64 (Pk.ld M.nx M.k s c)] w' fun e w''=>e=.returned (.tuple #[])/\∃vc'' vn'',Cs base (ob+1) vc'' vn'' (Pk.put (Pk.lay M.nx M.k s bb (own.take i) (R.ck,R.nt)).1 (bb+c) s) (Pk.put (Pk.lay M.nx M.k s bb (own.take i) (R.ck,R.nt)).2 (bb+c) (Pk.ld M.nx M.k s c)) w''/\Xo (ob+1) vc' vn' vc'' vn'' w' w''):=fun w' h'=>by
      rw[<-hkk];exact IX base (ob+1) vc' vn' _ _ k s (Pk.ld M.nx M.k s c) w' h'.c ll1 (by omega) (by omega) h'.bw
     have Hkk:Hid (k=bb+c):=hkk;clear il3 hv3 hgv ll1 ll2 hkk hc;go_wp2_with fail;refine HL.out.mono ?_;rintro e w4 ⟨rfl,hB4⟩;have S4:=S3.below hB4;have hO4:=hO3.below hB4;clear S3 hO3 hB4 HL cv;go_wp2_with fail;refine(HPut.out _ S4).mono ?_;rintro e w5 ⟨rfl,vc5,vn5,C5,P5⟩;have S5:=S4.put C5 P5;have hO5:OwnL base (.slice (some ⟨gv,ov,none⟩) own.length c2) (VP own) w5:=hO4.keep (fun k hk=>P5.kept k (hO4.blk k hk).2 (by have:=(hO4.blk k hk).1;have:=S4.c.lt;omega) (n1 k hk) (n2 k hk));have n3:Ur (.slice (some ⟨gv,ov,none⟩) own.length c2) vc5:=fun k h1 h2=>by
      rcases P5.oc k h2 with e|e
      ·exact n1 k h1 e
      ·have:=(hO4.blk k h1).2;omega
     have n4:Ur (.slice (some ⟨gv,ov,none⟩) own.length c2) vn5:=fun k h1 h2=>by
      rcases P5.on k h2 with e|e
      ·exact n2 k h1 e
      ·have:=(hO4.blk k h1).2;omega
     go_wp2_with fail;go_roundw
     case rel=>
      refine⟨i+1,vc5,vn5,by omega,by go_num,?_,hO5,n3,n4⟩;rw[HT.out];exact S5
     case measure=>simp[intOf];omega
    ·have hge:¬(i:Int)<(own.length:Int):=by omega
     have hio:own.take i=own:=List.take_of_length_le (by omega);rw[hio]at S3;clear hO3 n1 n2 hio;obtain⟨ad,cd,rfl,_⟩:=S3.d.il;obtain⟨ab,cb,rfl,_⟩:=S3.b.il;have d4:=(S3.t 4 _ rfl).1;obtain⟨hO1,_,hnw,hbs,hk1,_⟩:=S3.ready (Pk.df M.nx M.k s);have HK1:Hid (∀w5,(wr.alloc (.cells #[.int .i64 (Pk.df M.nx M.k s)] 3)).grownBy w5 (Value.slice ad R.df.length cd).ownBlock->w5.cell? ⟨tb,4,none⟩=some (.slice ad R.df.length cd)/\w5.frozen? ⟨tb,4,none⟩=false):=hk1;have HX:Hid (∀g cap w5,OwnL base (.slice (some ⟨g,0,none⟩) (R.df.length+1) cap) (R.df++[Pk.df M.nx M.k s]) w5->(wr.alloc (.cells #[.int .i64 (Pk.df M.nx M.k s)] 3)).grownBy w5 (Value.slice ad R.df.length cd).ownBlock->((Value.slice ad R.df.length cd).ownBlock=some g\/g=(wr.alloc (.cells #[.int .i64 (Pk.df M.nx M.k s)] 3)).heap.size) ->
       Tu w M A w.heap.size tb g1 g2 ob (ob+1) base (Pk.lay M.nx M.k s bb own (R.ck,R.nt)).1 (Pk.lay M.nx M.k s bb own (R.ck,R.nt)).2 R.bs (R.df++[Pk.df M.nx M.k s]) (.slice ab R.bs.length cb) (.slice (some ⟨g,0,none⟩) (R.df.length+1) cap) vc' vn' (w5.setCell ⟨tb,4,none⟩ (.slice (some ⟨g,0,none⟩) (R.df.length+1) cap))):=fun g cap w5 h1 h2 h3=>S3.pushD rfl h1 h2 h3
     clear S3 hk1;have HN2:Hid (∀(w5:World) (a:Addr) (u vd':Value),Tu w M A w.heap.size tb g1 g2 ob (ob+1) base (Pk.lay M.nx M.k s bb own (R.ck,R.nt)).1 (Pk.lay M.nx M.k s bb own (R.ck,R.nt)).2 R.bs (R.df++[Pk.df M.nx M.k s]) (.slice ab R.bs.length cb) vd' vc' vn' (w5.setCell a u) ->
       OwnL base (.slice ab R.bs.length cb) R.bs ((w5.setCell a u).alloc (.cells #[.int .i64 (bb:Int)] 3))/\((w5.setCell a u).alloc (.cells #[.int .i64 (bb:Int)] 3)).cell? ⟨w5.heap.size,0,none⟩=some (.int .i64 (bb:Int))/\base<=((w5.setCell a u).alloc (.cells #[.int .i64 (bb:Int)] 3)).heap.size /\
       ∀w7,((w5.setCell a u).alloc (.cells #[.int .i64 (bb:Int)] 3)).grownBy w7 (Value.slice ab R.bs.length cb).ownBlock->w7.cell? ⟨tb,3,none⟩=some (.slice ab R.bs.length cb)/\w7.frozen? ⟨tb,3,none⟩=false):=fun w5 a u vd' h=>by
      have hsz:(w5.setCell a u).heap.size=w5.heap.size:=by simp[World.setCell]
      obtain⟨_,h2,h3,h4,_,h6⟩:=h.ready (bb:Int);rw[hsz]at h3;exact⟨h2,h3,h4,h6⟩
     go_wp2_with (first
      |(at_builtin;refine wpList_append_int (by rfl) _ _ (by rfl) base (.slice ad R.df.length cd) R.df (by rfl) hO1 (by omega) wr.heap.size (Pk.df M.nx M.k s) (by rfl) hnw hbs _ rfl ?_;intro g cap w5 hO5 hgrow hgb hl5;obtain⟨c5,c5f⟩:=HK1.out w5 hgrow;have S5:=HX.out g cap w5 hO5 hgrow hgb;have c6:=(S5.t 3 _ rfl).1;obtain⟨hO6,hn6,hb6,hk6⟩:=HN2.out w5 _ _ _ S5;have HK6:Hid (∀w7,((w5.setCell ⟨tb,4,none⟩ (.slice (some ⟨g,0,none⟩) (R.df.length+1) cap)).alloc (.cells #[.int .i64 (bb:Int)] 3)).grownBy w7 (Value.slice ab R.bs.length cb).ownBlock->w7.cell? ⟨tb,3,none⟩=some (.slice ab R.bs.length cb)/\w7.frozen? ⟨tb,3,none⟩=false):=hk6;clear hk6 hO1)
      |(at_builtin;refine wpList_append_int (by rfl) _ _ (by rfl) base (.slice ab R.bs.length cb) R.bs (by rfl) hO6 (by omega) w5.heap.size (bb:Int) (by rfl) hn6 hb6 _ rfl ?_;intro g7 cap7 w7 hO7 hgrow7 hgb7 hl7;obtain⟨c7,c7f⟩:=HK6.out w7 hgrow7))
     have S7:=S5.pushB rfl hO7 hgrow7 hgb7;go_roundw
     case rel=>
      have E:∀vb vd vc vn W,Tu w M A w.heap.size tb g1 g2 ob (ob+1) base (Pk.lay M.nx M.k s bb own (R.ck,R.nt)).1 (Pk.lay M.nx M.k s bb own (R.ck,R.nt)).2 (R.bs++[(bb:Int)]) (R.df++[Pk.df M.nx M.k s]) vb vd vc vn W->Tu w M A w.heap.size tb g1 g2 ob (ob+1) base (Pk.run M.nx M.k (s+1)).ck (Pk.run M.nx M.k (s+1)).nt (Pk.run M.nx M.k (s+1)).bs (Pk.run M.nx M.k (s+1)).df vb vd vc vn W:=by
       rw[Hr1.out];exact fun _ _ _ _ _ h=>h
      exact⟨s+1,_,_,_,_,by omega,by go_num,E _ _ _ _ _ S7⟩
     case measure=>simp[intOf];omega
  ·have hge:¬(s:Int)<(M.nlb:Int):=by omega
   have hsn:s=M.nlb:=by omega
   subst hsn;obtain⟨vca,vcc,hvc,_⟩:=S.c.c.il;obtain⟨vna,vnc,hvn,_⟩:=S.c.n.il;generalize (Pk.run M.nx M.k M.nlb).ck.length=lc at hvc;generalize (Pk.run M.nx M.k M.nlb).nt.length=ln at hvn;subst hvc;subst hvn;obtain⟨t5,t5n,hrg,hth,W9,hW9,hl9,hp9⟩:=S.last HSn.out (by unfold Mc.st;rfl);obtain⟨q5,q5f⟩:=S.t 5 _ rfl;obtain⟨q6,q6f⟩:=t5 6 _ rfl;have c0:=(S.c.s 0 _ rfl).1;have HP9:Hid (UQ M w (.returned (.tuple #[.agg (XL M g1 g2 vb vd (.slice vca lc vcc) (.slice vna ln vnc)),.int .i64 0])) W9):=hp9;have HW9:Hid (W9=((wr.setCell ⟨tb,5,none⟩ (.slice vca lc vcc)).setCell ⟨tb,6,none⟩ (.slice vna ln vnc)).setCells w.heap.size 0 (XL M g1 g2 vb vd (.slice vca lc vcc) (.slice vna ln vnc)).toList):=hW9;have HL9:Hid ((loadVar 28 ⟨w.heap.size,0,none⟩).run Try.prog W9=.ok (.agg (XL M g1 g2 vb vd (.slice vca lc vcc) (.slice vna ln vnc))) W9):=hl9;have o1:=S.b.one;have o2:=S.d.one;have o3:=S.c.c.one;have o4:=S.c.n.one;have HO:Hid (vb.oneCell'=true/\vd.oneCell'=true/\(Value.slice vca lc vcc).oneCell'=true/\(Value.slice vna ln vnc).oneCell'=true):=⟨o1,o2,o3,o4⟩;have hone:(#[.int .i64 M.rules,.slice (some ⟨g1,0,none⟩) M.ncl M.ncl,.slice (some ⟨g2,0,none⟩) M.nlb M.nlb,vb,vd,.slice vca lc vcc,.slice vna ln vnc]:Array Value).all (·.oneCell')=true:=all_oneCell_toArray (fun v hv=>by
    simp only[List.mem_cons,List.not_mem_nil,or_false]at hv;rcases hv with rfl|rfl|rfl|rfl|rfl|rfl|rfl
    ·rfl
    ·rfl
    ·rfl
    ·exact HO.out.1
    ·exact HO.out.2.1
    ·rfl
    ·rfl)
   clear hp9 hW9 hl9 t5 S o1 o2 o3 o4 HO;unfold XL at HW9;go_wp2_with (first
    |(refine wpList_load_mid rfl 28 _ rfl tb 0 rfl [.int .i64 M.rules,.slice (some ⟨g1,0,none⟩) M.ncl M.ncl,.slice (some ⟨g2,0,none⟩) M.nlb M.nlb,vb,vd,.slice vca lc vcc,.slice vna ln vnc] _ hrg Try.underlying28 rfl Wy ?_)
    |(refine wpList_store_mid rfl 28 _ _ rfl w.heap.size 0 #[.int .i64 M.rules,.slice (some ⟨g1,0,none⟩) M.ncl M.ncl,.slice (some ⟨g2,0,none⟩) M.nlb M.nlb,vb,vd,.slice vca lc vcc,.slice vna ln vnc] rfl rfl hth Wy hone ?_;rw[<-HW9.out]))
   refine bodyPost_ret (v:=.tuple #[.agg (XL M g1 g2 vb vd (.slice vca lc vcc) (.slice vna ln vnc)),.int .i64 0]) (UV Try.results36 rfl HL9.out rfl) rfl HP9.out
end Go.Proofs.Ytoaaklhpmhjhkab
namespace Go.Proofs.Ytoaaklhpmhjhkab
open Go.RowKit
open Bm
variable {M : Mc}{B : Nat}{vb vc vn : Value}{W : World}
theorem Wc.at_ (h:Wc M) (s c:Nat) (hs:s<M.nlb) (hc:c<M.k):-1<=M.nx (s*M.k+c)/\M.nx (s*M.k+c)<M.nlb:=by
 have hb:=h.b (s*M.k+c) (by
  rw[h.e];have:(s+1)*M.k<=M.nlb*M.k:=Nat.mul_le_mul_right _ hs;rw[Nat.succ_mul]at this;omega)
 omega
theorem Qo {M:Mc} (h:Wc M):KW (Wz M):=by
 have I:Pk.Inv M.nx M.k M.nlb M.st:=Pk.inv M.nx M.k M.nlb;have hl:=h.hd.2.1;have hk:=h.k1;have hce:∀j,j<M.st.ck.length->M.st.ck.getD j 0=M.st.ck.getD j (-1):=fun j hj=>SW _ _ _ _ hj
 have hne:∀j,j<M.st.ck.length->M.st.nt.getD j 0=M.st.nt.getD j (-1):=fun j hj=>SW _ _ _ _ (by rw[<-I.l1];exact hj)
 refine⟨h.hd,I.l3,I.l4,I.l1.symm,?_,I.b3,fun i hi=>?_,fun j hj=>?_,?_⟩
 ·exact Nat.le_trans I.l2 (Nat.mul_le_mul hl.2 hk.2)
 ·show -1<=M.st.df.getD i 0/\M.st.df.getD i 0<i;rw[I.b4 i hi];exact Pk.df_bd _ _ _
 ·unfold Vh;show(M.st.ck.getD j 0=-1/\M.st.nt.getD j 0=-1)\/_;have hj':=hj;rcases I.cs j hj' with ⟨h1,h2⟩|⟨i,c,h1,h2,h3,h4,h5⟩
  ·left;rw[hce j hj',hne j hj'];exact⟨h1,h2⟩
  ·right;have e1:(Wz M).ck j=i:=by show M.st.ck.getD j 0=_;rw[hce j hj',h3]
   have e2:(Wz M).nx j=M.nx (i*M.k+c):=by show M.st.nt.getD j 0=_;rw[hne j hj',h5,Pk.ld_nat]
   have e3:(Wz M).bs i=M.st.bs.getD i 0:=rfl;have e4:(Wz M).nlb=M.nlb:=rfl;have e5:Vo (Wz M).cl (Wz M).ncl=M.k:=rfl;have:=h.at_ i c h1 h2;rw[e1,e2,e4,e5,Int.toNat_natCast,e3];omega
 ·show M.st.ck.length=0\/M.st.ck.getD (M.st.ck.length-1) 0≠-1;rcases I.la with h0|h0
  ·exact Or.inl h0
  ·by_cases e:M.st.ck.length=0
   ·exact Or.inl e
   ·right;rw[hce _ (by omega)];exact h0
theorem Gk.tb {g1 g2:Nat}{vd:Value} (h:Gk B M g1 g2 vb vd vc vn W):∃A:NA,XL M g1 g2 vb vd vc vn=A.cells (Wz M)/\QU (Wz M) A W:=by
 obtain⟨a3,c3,h3,i3⟩:=h.b.il;obtain⟨a4,c4,h4,i4⟩:=h.d.il;obtain⟨a5,c5,h5,i5⟩:=h.c.il;obtain⟨a6,c6,h6,i6⟩:=h.n.il;refine⟨⟨some ⟨g1,0,none⟩,M.ncl,some ⟨g2,0,none⟩,M.nlb,a3,c3,a4,c4,a5,c5,a6,c6⟩,?_,h.k1.il (Nat.le_refl _),h.k2.il (Nat.le_refl _),i3,i4,i5,i6⟩;rw[h3,h4,h5,h6];rfl
theorem J0 (h:Wc M):Jl (Wz M):=by
 have hS:=Qo h;have hl:=h.hd.2.1;have h1:=h.ncl;have e1:(Wz M).ncl=M.ncl:=rfl;have e2:(Wz M).nlb=M.nlb:=rfl;have:=hS.e3;have:=hS.e4;have:=hS.e5;have:=hS.e6;exact⟨by omega,by omega,by omega,by omega,by omega,by omega⟩
end Go.Proofs.Ytoaaklhpmhjhkab
