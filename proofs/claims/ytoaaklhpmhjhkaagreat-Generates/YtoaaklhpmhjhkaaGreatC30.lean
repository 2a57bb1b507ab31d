import Derived.Test.YtoaaklhpmhjhkaaGreatC04
import Derived.Test.YtoaaklhpmhjhkaaGreatC27
import Derived.Test.YtoaaklhpmhjhkaaGreatC29
set_option maxRecDepth 100000
set_option maxHeartbeats 4000000
set_option linter.all false
namespace Go.Proofs.YtoaaklhpmhjhkaaGreat
section
open Go.RowKit
open Bm
def Mc.st (M:Mc):Pk.St:=Pk.run M.nx M.k M.nlb
def WY (M:Mc):Tb where
 rules:=M.rules
 cl:=M.cl
 ncl:=M.ncl
 lb:=M.lb
 nlb:=M.nlb
 bs:=λi=>M.st.bs.getD i 0
 nbs:=M.st.bs.length
 df:=λi=>M.st.df.getD i 0
 ndf:=M.st.df.length
 ck:=λi=>M.st.ck.getD i 0
 nck:=M.st.ck.length
 nx:=λi=>M.st.nt.getD i 0
 nnx:=M.st.nt.length
def Tw (u v:Value):Prop:=∀k,u.ownBlock=some k->v.ownBlock≠some k
variable {x:Int}{bs ck ck' df nt nt':List Int}{L:List Value}{B b base cap cb g g1 g2 k mb n q rb t:Nat}{V:Nat->Value}{ob:Obj}{ad:Option Addr}{v vb vb' vc vc' vd vn vn':Value}{W W' W1 w w2 w5:World}
theorem Tw.symm {u:Value} (h:Tw u v):Tw v u:=λk h1 h2=>h k h2 h1
structure QI (w:World) (M:Mc) (A:Ux) (rb tb g1 g2 ob cb base:Nat) (ck nt bs df:List Int) (vb vd vc vn:Value) (W:World):Prop where
 z:W.there rb 0 7
 t:TC tb [.int .i64 M.rules,.slice (some ⟨g1,0,none⟩) M.ncl M.ncl,.slice (some ⟨g2,0,none⟩) M.nlb M.nlb,vb,vd,.slice none 0 0,.slice none 0 0] W
 k1:XB g1 M.cl M.ncl W
 k2:XB g2 M.lb M.nlb W
 r0:TC ob [.int .i64 M.k,.slice A.a3 M.nnx A.c3] W
 c:Cs base cb vc vn ck nt W
 b:OwnL base vb bs W
 d:OwnL base vd df W
 bd:Tw vb vd
 bc:Tw vb vc
 bn:Tw vb vn
 dc:Tw vd vc
 dn:Tw vd vn
 bel:Below w.heap.size w W
 bw:base<=W.heap.size
 o0:w.heap.size<=rb
 o1:rb<tb
 o2:tb<g1
 o3:g1<g2
 o4:g2<ob
 o5:ob<cb
theorem Vj {o:Nat} (h:W.there b o n) (y:W'.heap[b]?=W.heap[b]?):W'.there b o n:=λj c=>by
 rw[World.cell?_of_block (w:=W) (w':=W') (a:=(a_ b (o+j))) y,World.frozen?_of_block (w:=W) (w':=W') (a:=(a_ b (o+j))) y];exact h j c
variable {M:Mc}{tb:Nat}
theorem QI.move {A:Ux}{ob:Nat}{y H:List Int}{vd':Value} (h:QI w M A rb tb g1 g2 ob cb base ck nt bs df vb vd vc vn W)
  (J:∀q,q<base->q≠tb->q≠cb->W'.heap[q]?=W.heap[q]?) (hz:W.heap.size<=W'.heap.size)
  (ht:TC tb [I6 M.rules,sL g1 M.ncl M.ncl,sL g2 M.nlb M.nlb,vb',vd',sN,sN] W')
  (hc:Cs base cb vc' vn' ck' nt' W') (hb:OwnL base vb' y W') (hd:OwnL base vd' H W') (Z:Tw vb' vd') (Y:Tw vb' vc') (bn:Tw vb' vn') (dc:Tw vd' vc') (dn:Tw vd' vn') (hB:Bl w W'):
  QI w M A rb tb g1 g2 ob cb base ck' nt' y H vb' vd' vc' vn' W':=by
 have h0:=h.o0;have h1:=h.o1;have h2:=h.o2;have h3:=h.o3;have a:=h.o4;have b:=h.o5;have d:=h.c.lt;exact⟨Vj h.z (J _ (by omega) (by omega) (by omega)),ht,h.k1.block (J _ (by omega) (by omega) (by omega)),h.k2.block (J _ (by omega) (by omega) (by omega)),
  h.r0.block (J _ (by omega) (by omega) (by omega)),hc,hb,hd,Z,Y,bn,dc,dn,hB,ZJ h.bw hz,h0,h1,h2,h3,a,b⟩
theorem QI.below {A:Ux}{ob:Nat} (h:QI w M A rb tb g1 g2 ob cb base ck nt bs df vb vd vc vn W) (y:Bl W W'):
  QI w M A rb tb g1 g2 ob cb base ck nt bs df vb vd vc vn W':=
 h.move (λq a _ _=>y.block q (ZH a h.bw)) y.size (h.t.below y) (h.c.below y) (h.b.below y) (h.d.below y) h.bd h.bc h.bn h.dc h.dn (h.bel.trans (y.mono h.bel.size))
theorem QI.rw {A:Ux}{ob:Nat} (h:QI w M A rb tb g1 g2 ob cb base ck nt bs df vb vd vc vn W) (y:QH M A w):Rw ob M.k A.a3 M.nnx A.c3 M.nx W:=
 ⟨(h.r0 0 _ rfl).1,(h.r0 1 _ rfl).1,y.l3.below h.bel⟩
theorem QI.put {A:Ux}{ob:Nat} (h:QI w M A rb tb g1 g2 ob cb base ck nt bs df vb vd vc vn W)
  (J:Cs base cb vc' vn' ck' nt' W') (H:WN cb vc vn vc' vn' W W'):QI w M A rb tb g1 g2 ob cb base ck' nt' bs df vb vd vc' vn' W':=by
 have G:=h.o5;have C:=h.bw;have j:=h.c.c.blk;have m:=h.c.n.blk;have i:∀q,q<base->q≠cb->W'.heap[q]?=W.heap[q]?:=λq o h0=>H.kept q (by omega) h0 (λe=>by have:=(j q e).1;omega) (λe=>by have:=(m q e).1;omega)
 have a:∀(u:Value) (l:List Int),OwnL base u l W->Tw u vc->Tw u vn->OwnL base u l W'/\Tw u vc'/\Tw u vn':=λu l g p r=>by
  refine⟨g.keep (λk f=>H.kept k (g.blk k f).2 (by have:=(g.blk k f).1;have:=h.c.lt;omega) (p k f) (r k f)),λk f e=>?_,λk f e=>?_⟩
  ·rcases H.oc k e with e|e
   ·exact p k f e
   have:=(g.blk k f).2;omega
  rcases H.on k e with e|e
  ·exact r k f e
  have:=(g.blk k f).2;omega
 obtain⟨s,v,x⟩:=a vb bs h.b h.bc h.bn;obtain⟨y,z,B⟩:=a vd df h.d h.dc h.dn;have h0:=h.o0;have h1:=h.o1;have h2:=h.o2;have h3:=h.o3;have F:=h.o4;have D:=h.c.lt;exact h.move (λq o _ E=>i q o E) H.bel.size (h.t.block (i _ (by omega) (by omega))) J s y h.bd v x z B (h.bel.trans (H.bel.mono (by omega)))
theorem QI.ready {A:Ux}{ob:Nat} (x:Int) (h:QI w M A rb tb g1 g2 ob cb base ck nt bs df vb vd vc vn W):
  OwnL base vd df (W.alloc (.cells #[I6 x] 3))/\OwnL base vb bs (W.alloc (.cells #[I6 x] 3))/\(W.alloc (.cells #[I6 x] 3)).cell? (a_ W.heap.size 0)=some (I6 x)/\base<=(W.alloc (.cells #[I6 x] 3)).heap.size /\
  (∀w5,(W.alloc (.cells #[I6 x] 3)).grownBy w5 vd.ownBlock->w5.cell? (a_ tb 4)=some vd/\w5.frozen? (a_ tb 4)=false) /\
  (∀w5,(W.alloc (.cells #[I6 x] 3)).grownBy w5 vb.ownBlock->w5.cell? (a_ tb 3)=some vb/\w5.frozen? (a_ tb 3)=false):=by
 have a:=box_bel W (.cells #[I6 x] 3);have h2:=h.o2;have h3:=h.o3;have g:=h.o4;have i:=h.o5;have j:=h.c.lt;refine⟨h.d.below a,h.b.below a,by rw[Zm];rfl,ZJ h.bw a.size,λw5 f=>?_,λw5 f=>?_⟩
 ·exact((h.t.below a).block (f.block _ (ZH h.t.lt a.size) (λe=>by have:=(h.d.blk _ e.symm).1;omega))) 4 _ rfl
 exact((h.t.below a).block (f.block _ (ZH h.t.lt a.size) (λe=>by have:=(h.b.blk _ e.symm).1;omega))) 3 _ rfl
theorem TY {u v v':Value}{g n cap:Nat}{W W1:World} (z:v'=sL g n cap) (y:v.ownBlock=some g\/g=W1.heap.size) (hz:W.heap.size<=W1.heap.size) (J:∀k,u.ownBlock=some k->k<W.heap.size) (H:Tw v u):Tw v' u:=by
 intro k a e;rw[z]at a;have e2:g=k:=Zh a;rcases y with h1|h1
 ·rw[e2]at h1;exact H k h1 e
 have:=J k e;omega
theorem QI.pushD {A:Ux}{ob:Nat}{o:Obj} (h:QI w M A rb tb g1 g2 ob cb base ck nt bs df vb vd vc vn W) (J:W1=W.alloc o)
  (Z:OwnL base (sL g (df.length+1) cap) (df++[x]) w5) (Y:W1.grownBy w5 vd.ownBlock) (H:vd.ownBlock=some g\/g=W1.heap.size):
  QI w M A rb tb g1 g2 ob cb base ck nt bs (df++[x]) vb (sL g (df.length+1) cap) vc vn (w5.setCell (a_ tb 4) (sL g (df.length+1) cap)):=by
 have x1:Bl W W1:=by rw[J];exact box_bel _ _
 have z:W1.heap.size=W.heap.size+1:=by rw[J];simp
 have k1:=h.below x1;have h0:=h.o0;have h1:=h.o1;have h2:=h.o2;have h3:=h.o3;have B:=h.o4;have C:=h.o5;have D:=h.c.lt;have E:=h.bw;have v:=(Z.blk g rfl).1;have f:=h.d.blk;have s:∀k,k≠tb->(w5.setCell (a_ tb 4) (sL g (df.length+1) cap)).heap[k]?=w5.heap[k]?:=λk a=>Zq w5 (a_ tb 4) _ k (λe=>a e)
 have i:∀q,q<W1.heap.size->q≠tb->vd.ownBlock≠some q->(w5.setCell (a_ tb 4) (sL g (df.length+1) cap)).heap[q]?=W1.heap[q]?:=λq j h0 h1=>by
  rw[s q h0,Y.block q j (λe=>h1 e.symm)]
 have kl:∀(u:Value) (l:List Int),OwnL base u l W1->Tw vd u->OwnL base u l (w5.setCell (a_ tb 4) (sL g (df.length+1) cap)):=λu l r y=>r.keep (λk a=>i k (r.blk k a).2 (by have:=(r.blk k a).1;omega) (λe=>y k e a))
 refine k1.move (λq j m _=>i q (by omega) m (λe=>by have:=(f q e).1;omega)) (by have:=Y.size;simpa[World.setCell]using this) ?_ ?_ (kl vb bs k1.b h.bd.symm) (Z.keep (λk a=>s k (by cases a;show g≠_;omega))) ?_ h.bc h.bn ?_ ?_ ?_
 ·exact(k1.t.block (Y.block _ (by omega) (λe=>by have:=(f _ e.symm).1;omega))).set 4 (by simp) _
 ·refine k1.c.keep (i cb (by omega) (by omega) (λe=>by have:=(f _ e).1;omega)) (λk a=>i k (k1.c.c.blk k a).2 (by have:=(k1.c.c.blk k a).1;omega) (λe=>h.dc k e a)) (λk a=>i k (k1.c.n.blk k a).2 (by have:=(k1.c.n.blk k a).1;omega) (λe=>h.dn k e a))
 ·exact(TY rfl H (by omega) (λk a=>(h.b.blk k a).2) h.bd.symm).symm
 ·exact TY rfl H (by omega) (λk a=>(h.c.c.blk k a).2) h.dc
 ·exact TY rfl H (by omega) (λk a=>(h.c.n.blk k a).2) h.dn
 exact(k1.bel.grown Y (by omega) (λq j=>by have:=(f q j).1;omega)).setCell (p:=(a_ tb 4)) (show w.heap.size<=tb by omega) _
theorem QI.pushB {A:Ux}{ob:Nat}{o:Obj} (h:QI w M A rb tb g1 g2 ob cb base ck nt bs df vb vd vc vn W) (J:W1=W.alloc o)
  (Z:OwnL base (sL g (bs.length+1) cap) (bs++[x]) w5) (Y:W1.grownBy w5 vb.ownBlock) (H:vb.ownBlock=some g\/g=W1.heap.size):
  QI w M A rb tb g1 g2 ob cb base ck nt (bs++[x]) df (sL g (bs.length+1) cap) vd vc vn (w5.setCell (a_ tb 3) (sL g (bs.length+1) cap)):=by
 have x1:Bl W W1:=by rw[J];exact box_bel _ _
 have z:W1.heap.size=W.heap.size+1:=by rw[J];simp
 have k1:=h.below x1;have h0:=h.o0;have h1:=h.o1;have h2:=h.o2;have h3:=h.o3;have B:=h.o4;have C:=h.o5;have D:=h.c.lt;have E:=h.bw;have v:=(Z.blk g rfl).1;have f:=h.b.blk;have s:∀k,k≠tb->(w5.setCell (a_ tb 3) (sL g (bs.length+1) cap)).heap[k]?=w5.heap[k]?:=λk a=>Zq w5 (a_ tb 3) _ k (λe=>a e)
 have i:∀q,q<W1.heap.size->q≠tb->vb.ownBlock≠some q->(w5.setCell (a_ tb 3) (sL g (bs.length+1) cap)).heap[q]?=W1.heap[q]?:=λq j h0 h1=>by
  rw[s q h0,Y.block q j (λe=>h1 e.symm)]
 have kl:∀(u:Value) (l:List Int),OwnL base u l W1->Tw vb u->OwnL base u l (w5.setCell (a_ tb 3) (sL g (bs.length+1) cap)):=λu l r y=>r.keep (λk a=>i k (r.blk k a).2 (by have:=(r.blk k a).1;omega) (λe=>y k e a))
 refine k1.move (λq j m _=>i q (by omega) m (λe=>by have:=(f q e).1;omega)) (by have:=Y.size;simpa[World.setCell]using this) ?_ ?_ (Z.keep (λk a=>s k (by cases a;show g≠_;omega))) (kl vd df k1.d h.bd) ?_ ?_ ?_ h.dc h.dn ?_
 ·exact(k1.t.block (Y.block _ (by omega) (λe=>by have:=(f _ e.symm).1;omega))).set 3 (by simp) _
 ·refine k1.c.keep (i cb (by omega) (by omega) (λe=>by have:=(f _ e).1;omega)) (λk a=>i k (k1.c.c.blk k a).2 (by have:=(k1.c.c.blk k a).1;omega) (λe=>h.bc k e a)) (λk a=>i k (k1.c.n.blk k a).2 (by have:=(k1.c.n.blk k a).1;omega) (λe=>h.bn k e a))
 ·exact TY rfl H (by omega) (λk a=>(h.d.blk k a).2) h.bd
 ·exact TY rfl H (by omega) (λk a=>(h.c.c.blk k a).2) h.bc
 ·exact TY rfl H (by omega) (λk a=>(h.c.n.blk k a).2) h.bn
 exact(k1.bel.grown Y (by omega) (λq j=>by have:=(f q j).1;omega)).setCell (p:=(a_ tb 3)) (show w.heap.size<=tb by omega) _
theorem Kl (nx:Nat->Int) (n s b:Nat) (l:List Nat) (p:List Int × List Int) (i c:Nat) (h:l[i]?=some c):
  Pk.lay nx n s b (l.take (i+1)) p=(Pk.put (Pk.lay nx n s b (l.take i) p).1 (b+c) s,Pk.put (Pk.lay nx n s b (l.take i) p).2 (b+c) (Pk.ld nx n s c)):=by
 rw[List.take_add_one,h,Pk.lay_append];rfl
structure BG (B:Nat) (M:Mc) (g1 g2:Nat) (vb vd vc vn:Value) (W:World):Prop where
 k1:XB g1 M.cl M.ncl W
 k2:XB g2 M.lb M.nlb W
 b:OwnL B vb M.st.bs W
 d:OwnL B vd M.st.df W
 c:OwnL B vc M.st.ck W
 n:OwnL B vn M.st.nt W
 bd:Tw vb vd
 bc:Tw vb vc
 bn:Tw vb vn
 dc:Tw vd vc
 dn:Tw vd vn
 cn:Tw vc vn
 o1:B<=g1
 o2:g1<g2
 o3:∀k,(vb.ownBlock=some k\/vd.ownBlock=some k\/vc.ownBlock=some k\/vn.ownBlock=some k)->g2<k
def Xq (M:Mc) (g1 g2:Nat) (vb vd vc vn:Value):Array Value:=#[.int .i64 M.rules,.slice (some ⟨g1,0,none⟩) M.ncl M.ncl,.slice (some ⟨g2,0,none⟩) M.nlb M.nlb,vb,vd,vc,vn]
def SL (M:Mc) (w:World) (e:Ending) (w':World):Prop:=
 Below w.heap.size w w'/\((¬WO M/\e=.returned (.tuple #[.agg Xi,.int .i64 10])) \/
  (WO M/\∃g1 g2 vb vd vc vn,e=.returned (.tuple #[.agg (Xq M g1 g2 vb vd vc vn),.int .i64 0])/\BG w.heap.size M g1 g2 vb vd vc vn w'))
theorem Fe (y:W.there w.heap.size 0 7) (z:Bl w W) (H:¬WO M):
  ∃W',W'=W.setCells w.heap.size 0 Xi.toList/\(loadVar 83 (a_ w.heap.size 0)).run Tryz.prog W'=.ok (.agg Xi) W'/\SL M w (.returned (.tuple #[.agg Xi,I6 10])) W':=by
 refine⟨_,rfl,?_,?_,Or.inl ⟨H,rfl⟩⟩
 ·exact ZF (P:=Tryz.prog) _ w.heap.size 0 83 Xi.toList _ (Zo W w.heap.size 0 Xi.toList y) u_k rfl Yd
 exact z.grown (Y8 w.heap.size Xi.toList 0 W) z.size (λq a=>by cases a;exact Zg _)
theorem Jx (w:World):(zeroValue 160).run Tryz.prog w=.ok (.agg #[sN,sN]) w:=by
 go_simp
theorem Bm.OwnL.one {l:List Int} (h:OwnL B v l w):v.oneCell'=true:=by
 obtain⟨a,c,h1,_⟩:=h.il;rw[h1];rfl
theorem QI.last {A:Ux}{ob:Nat} (h:QI w M A rb tb g1 g2 ob cb base ck nt bs df vb vd vc vn W) (Z:WO M) (Y:Mc.st M=⟨ck,nt,bs,df⟩):
  TC tb [I6 M.rules,sL g1 M.ncl M.ncl,sL g2 M.nlb M.nlb,vb,vd,vc,sN] (W.setCell (a_ tb 5) vc) /\
  (W.setCell (a_ tb 5) vc).cell? (a_ cb 1)=some vn /\
  ((W.setCell (a_ tb 5) vc).setCell (a_ tb 6) vn).rangeAt tb 0 [I6 M.rules,sL g1 M.ncl M.ncl,sL g2 M.nlb M.nlb,vb,vd,vc,vn] /\
  ((W.setCell (a_ tb 5) vc).setCell (a_ tb 6) vn).there rb 0 7 /\
  ∃W',W'=((W.setCell (a_ tb 5) vc).setCell (a_ tb 6) vn).setCells rb 0 (Xq M g1 g2 vb vd vc vn).toList/\(loadVar 83 (a_ rb 0)).run Tryz.prog W'=.ok (.agg (Xq M g1 g2 vb vd vc vn)) W'/\SL M w (.returned (.tuple #[.agg (Xq M g1 g2 vb vd vc vn),I6 0])) W':=by
 have h0:=h.o0;have h1:=h.o1;have h2:=h.o2;have h3:=h.o3;have N:=h.o4;have O:=h.o5;have Q:=h.c.lt;have R:=h.bw;have F:=h.t.set 5 (by simp) vc;have G:=F.set 6 (by simp) vn;obtain⟨B,i⟩:=nam (W.setCell (a_ tb 5) vc);obtain⟨g,j⟩:=nam (B.setCell (a_ tb 6) vn);have r:∀q,q≠tb->B.heap[q]?=W.heap[q]?:=λq m=>by rw[i];exact Zq W (a_ tb 5) _ q (λe=>m e)
 have v:∀q,q≠tb->g.heap[q]?=W.heap[q]?:=λq m=>by rw[j,Zq B (a_ tb 6) _ q (λe=>m e),r q m]
 have o:Bl w g:=by
  rw[j,i];exact(h.bel.setCell (p:=(a_ tb 5)) (show w.heap.size<=tb by omega) _).setCell (p:=(a_ tb 6)) (show w.heap.size<=tb by omega) _
 have x:g.there rb 0 7:=Vj h.z (v rb (by omega));rw[<-i]at F G ⊢;rw[<-j]at G ⊢;refine⟨F,?_,G.range,x,_,rfl,?_,?_,Or.inr ⟨Z,g1,g2,vb,vd,vc,vn,rfl,?_⟩⟩
 ·rw[World.cell?_of_block (w:=W) (a:=(a_ cb 1)) (r cb (by omega))];exact(h.c.s 1 _ rfl).1
 ·exact ZF (P:=Tryz.prog) _ rb 0 83 (Xq M g1 g2 vb vd vc vn).toList _ (Zo g rb 0 (Xq M g1 g2 vb vd vc vn).toList x) u_k rfl Yd
 ·exact o.grown (Y8 rb _ 0 g) o.size (λq m=>by cases m;exact h0)
 have K:=Y8 rb (Xq M g1 g2 vb vd vc vn).toList 0 g;have L:W.heap.size<=g.heap.size:=by rw[j,i];simp[World.setCell]
 have C:∀q,q<W.heap.size->q≠tb->q≠rb->(g.setCells rb 0 (Xq M g1 g2 vb vd vc vn).toList).heap[q]?=W.heap[q]?:=λq m D E=>by
  rw[K.block q (by omega) (λe=>E (Zh e)),v q D]
 have H:M.st.ck=ck:=by rw[Y]
 have e2:M.st.nt=nt:=by rw[Y]
 have I:M.st.bs=bs:=by rw[Y]
 have J:M.st.df=df:=by rw[Y]
 have kl:∀(u:Value) (l:List Int),OwnL base u l W->OwnL w.heap.size u l (g.setCells rb 0 (Xq M g1 g2 vb vd vc vn).toList):=λu l y=>
  (y.keep (λk f=>C k (y.blk k f).2 (by have:=(y.blk k f).1;omega) (by have:=(y.blk k f).1;omega))).mono (by omega)
 refine⟨h.k1.block (C _ (by omega) (by omega) (by omega)),h.k2.block (C _ (by omega) (by omega) (by omega)),by rw[I];exact kl vb bs h.b,by rw[J];exact kl vd df h.d,by rw[H];exact kl vc ck h.c.c,by rw[e2];exact kl vn nt h.c.n,h.bd,h.bc,h.bn,h.dc,h.dn,h.c.ne,by omega,by omega,λk f=>?_⟩;rcases f with e|e|e|e
 ·have:=(h.b.blk k e).1;omega
 ·have:=(h.d.blk k e).1;omega
 ·have:=(h.c.c.blk k e).1;omega
 have:=(h.c.n.blk k e).1;omega
theorem Og (mb:Nat) (M:Mc) (A:Ux) (w:World) (hs:La M) (hA:WD mb M A w) (hI:QH M A w):
  Cp 35 #[pT mb] w (SL M w):=by
 have hz:=UO;have ca:=Jx;obtain⟨W0,X⟩:∃W,W=w.alloc (.cells #[I6 0,sN,sN,sN,sN,sN,sN] 83):=⟨_,rfl⟩;have aK:W0.there w.heap.size 0 7:=by rw[X];exact VL w _
 have T:Bl w W0:=by rw[X];exact Yg _ _
 have aJ:w.heap.size<W0.heap.size:=by rw[X];simp
 have HS:Hid (Cp 69 #[pT mb] W0 (YD (WO M) W0)):=M9 mb M A W0 hs (hA.below T) (hI.below T);have HI:Hid (QH M A w):=hI;have HA:Hid (WD mb M A w):=hA;have am:Hid (La M):=hs;clear hA hI hs;go_enter Tryz.func35,Tryz.ntmps35;go_wp2_with fail;rw[<-X];clear X;refine HS.out.mono ?_;rintro e w1 ⟨p,rfl,hp,aa⟩;have Hp:Hid (p=true<->WO M):=hp;have ae:=XS aK (by omega) aa;have C:=T.trans (aa.mono T.size);have ap:w.heap.size<w1.heap.size:=ZH aJ aa.size;clear hp aK T aJ aa HS;cases p
 ·obtain⟨W1,aL,af,a5⟩:=Fe ae C (λh=>by have:=Hp.out.2 h;cases this);have bu:Hid (SL M w (.returned (.tuple #[.agg Xi,I6 10])) W1):=a5;have bx:Hid (W1=w1.setCells w.heap.size 0 Xi.toList):=aL;have bq:Hid ((loadVar 83 (a_ w.heap.size 0)).run Tryz.prog W1=.ok (.agg Xi) W1):=af;clear a5 aL af;go_wp2_with (first|(refine Za rfl 83 _ _ rfl w.heap.size 0 Xi rfl rfl ae Yd (by simp[Xi,Value.oneCell']) ?_;rw[<-bx.out]));refine Zr (v:=.tuple #[.agg Xi,I6 10]) (Wj Tryz.results35 rfl bq.out rfl) rfl bu.out
 have O:Hid (WO M):=Hp.out.1 rfl;clear Hp;have aN:M.ncl=256:=by
  have hp:=O.out.hd.2.2.1;unfold Vg at hp;by_cases e:M.ncl=256
  ·exact e
  rw[if_neg e]at hp;omega
 have bA:Hid (M.ncl=256):=aN;have bK:=O.out.hd.2.1;have j:M.k<=256:=SS _ _;have a0:M.nnx<=24576:=by rw[O.out.e];exact Nat.mul_le_mul bK.2 j
 have ag:Hid (∀s,s<M.nlb->s*M.k+M.k<=M.nnx):=λs bP=>by
  rw[O.out.e,<-Nat.succ_mul];exact ZQ _ bP
 obtain⟨B,J⟩:∃W,W=w1.alloc (.cells #[I6 M.rules,sN,sN,sN,sN,sN,sN] 83):=⟨_,rfl⟩;have x1:Bl w1 B:=by rw[J];exact Yg _ _
 have t2:TC w1.heap.size [I6 M.rules,sN,sN,sN,sN,sN,sN] B:=by
  rw[J];exact TC.boxed w1 _ _
 have z2:B.heap.size=w1.heap.size+1:=by rw[J];simp
 have m0:=((HA.out.below C).below (Yg w1 (.cells #[I6 0,sN,sN,sN,sN,sN,sN] 83))).c0;have P:=C.trans (x1.mono C.size);have T2:=XS ae (by omega) x1;have m1:=(HA.out.below P).c1;rw[J]at m1;have aw:Hid (Cp 70 #[.slice A.a1 M.ncl A.c1] B λe w'=>e=.returned (.slice (some (a_ B.heap.size 0)) M.ncl M.ncl)/\XB B.heap.size M.cl M.ncl w'/\Bl B w'):=NC _ _ _ _ _ (by have:=am.out.s1;omega) (HI.out.below P).l1;clear aN;have aC:Hid (B.heap.size=w1.heap.size+1):=z2;clear z2;go_wp2_with fail;rw[<-J];clear J m0 m1;refine aw.out.mono ?_;rintro e w3 ⟨rfl,n3,b3⟩;clear aw;have T3:=XS T2 (by omega) b3;have t3:=t2.below b3;have aF:=P.trans (b3.mono P.size);obtain⟨l,D⟩:∃W,W=w3.setCell (a_ w1.heap.size 1) (.slice (some (a_ B.heap.size 0)) M.ncl M.ncl):=⟨_,rfl⟩;have k4:∀q,q≠w1.heap.size->l.heap[q]?=w3.heap[q]?:=λq hq=>by rw[D];exact Zq w3 (a_ w1.heap.size 1) _ q (λe=>hq e)
 have t4:=t3.set 1 (by simp) (.slice (some (a_ B.heap.size 0)) M.ncl M.ncl);rw[<-D]at t4;have Q:Bl w l:=by rw[D];exact aF.setCell (p:=(a_ w1.heap.size 1)) (ZM ap) _
 have ai:w1.heap.size<B.heap.size:=by rw[aC.out];omega
 have n4:XB B.heap.size M.cl M.ncl l:=n3.block (k4 _ (by omega));have T4:l.there w.heap.size 0 7:=Vj T3 (k4 _ (by omega));have z4:l.heap.size=w3.heap.size:=by rw[D];simp[World.setCell]
 have aO:B.heap.size<w3.heap.size:=n3.lt (by rw[bA.out];omega);obtain⟨q1,av⟩:=t3 1 _ rfl;have m2:=(HA.out.below Q).c2;rw[D]at m2;have ax:Hid (Cp 70 #[.slice A.a2 M.nlb A.c2] l λe w'=>e=.returned (.slice (some (a_ l.heap.size 0)) M.nlb M.nlb)/\XB l.heap.size M.lb M.nlb w'/\Bl l w'):=NC _ _ _ _ _ (by have:=am.out.s2;omega) (HI.out.below Q).l2;have aD:Hid (l.heap.size=w3.heap.size):=z4;have bB:Hid (∀q,q≠w1.heap.size->l.heap[q]?=w3.heap[q]?):=k4;clear z4 k4 t2 t3 T2 T3 n3;go_wp2_with fail;rw[<-D];clear D m2 q1 av;refine ax.out.mono ?_;rintro e w5 ⟨rfl,n5,b5⟩;clear ax;have T5:=XS T4 (by omega) b5;have t5:=t4.below b5;have aG:=Q.trans (b5.mono Q.size);have bf:=n4.below b5;have aP:B.heap.size<l.heap.size:=by rw[aD.out];exact aO
 obtain⟨m,F⟩:∃W,W=w5.setCell (a_ w1.heap.size 2) (.slice (some (a_ l.heap.size 0)) M.nlb M.nlb):=⟨_,rfl⟩;have k6:∀q,q≠w1.heap.size->m.heap[q]?=w5.heap[q]?:=λq hq=>by rw[F];exact Zq w5 (a_ w1.heap.size 2) _ q (λe=>hq e)
 have t6:=t5.set 2 (by simp) (.slice (some (a_ l.heap.size 0)) M.nlb M.nlb);rw[<-F]at t6;have H:Bl w m:=by rw[F];exact aG.setCell (p:=(a_ w1.heap.size 2)) (ZM ap) _
 have n6:XB B.heap.size M.cl M.ncl m:=bf.block (k6 _ (by omega));have l6:XB l.heap.size M.lb M.nlb m:=n5.block (k6 _ (by omega));have T6:m.there w.heap.size 0 7:=Vj T5 (k6 _ (by omega));have z6:m.heap.size=w5.heap.size:=by rw[F];simp[World.setCell]
 have aQ:l.heap.size<w5.heap.size:=n5.lt (by omega);obtain⟨q1,av⟩:=t5 2 _ rfl;have m1:=(HA.out.below H).c1;rw[F]at m1;have ay:Hid (Cp 71 #[.slice A.a1 M.ncl A.c1] m λe w'=>e=.returned (I6 M.k)/\w'=m):=Xa _ _ _ _ _ (by have:=am.out.s1;unfold maxLen;omega) (HI.out.below H).l1;have aR:l.heap.size<m.heap.size:=by rw[z6];exact aQ
 have m3:=(HA.out.below H).c3;clear z6 k6 t4 t5 T4 T5 n4 bf n5;go_wp2_with fail;rw[<-F];clear F m1 q1 av;refine ay.out.mono ?_;rintro e m ⟨rfl,rfl⟩;clear ay;obtain⟨W7,K⟩:∃W,W=m.alloc (.cells #[I6 M.k,.slice A.a3 M.nnx A.c3] 158):=⟨_,rfl⟩;obtain⟨W8,L⟩:∃W,W=W7.alloc (.cells #[sN,sN] 160):=⟨_,rfl⟩;have x7:Bl m W7:=by rw[K];exact Yg _ _
 have x8:Bl W7 W8:=by rw[L];exact Yg _ _
 have N:=x7.trans (x8.mono x7.size);have z7:W7.heap.size=m.heap.size+1:=by rw[K];simp
 have z8:W8.heap.size=W7.heap.size+1:=by rw[L];simp
 have r8:TC m.heap.size [I6 M.k,.slice A.a3 M.nnx A.c3] W8:=by
  have h:TC m.heap.size [I6 M.k,.slice A.a3 M.nnx A.c3] W7:=by rw[K];exact TC.boxed _ _ _
  exact h.below x8
 have c8:TC W7.heap.size [sN,sN] W8:=by rw[L];exact TC.boxed _ _ _
 have S0:QI w M A w.heap.size w1.heap.size B.heap.size l.heap.size m.heap.size W7.heap.size W8.heap.size (Pk.run M.nx M.k 0).ck (Pk.run M.nx M.k 0).nt (Pk.run M.nx M.k 0).bs (Pk.run M.nx M.k 0).df (sN) (sN) (sN) (sN) W8:=by
  refine⟨XS T6 (by omega) N,t6.below N,n6.below N,l6.below N,r8,⟨c8,OwnL.nil _ _,OwnL.nil _ _,λk j=>(by cases j),by omega⟩,OwnL.nil _ _,OwnL.nil _ _,λk j=>(by cases j),λk j=>(by cases j),λk j=>(by cases j),λk j=>(by cases j),λk j=>(by cases j),H.trans (N.mono H.size),Zg _,Zg _,ap,ai,aP,aR,by omega⟩
 rw[K]at L;clear x7 x8 N r8 c8 T6 t6 n6 l6 aR aQ aP aO ai P aF Q aG b3 b5 ae C x1;have aE:Hid (W7.heap.size=m.heap.size+1):=z7;have bz:Hid (W7=m.alloc (.cells #[I6 M.k,.slice A.a3 M.nnx A.c3] 158)):=K;clear z7 z8 K;go_wp2_with fail;rw[<-L];clear L m3 H;rw[aE.out]at S0;clear aE bz aC aD bB;generalize W8.heap.size=base at *;generalize m.heap.size=ob at *;generalize l.heap.size=g2 at *;generalize B.heap.size=g1 at *;generalize w1.heap.size=tb at *
 go_loopw [9] (λx w'=>∃(s:Nat) (vb vd vc vn:Value),s<=M.nlb/\x=I6 s/\QI w M A w.heap.size tb g1 g2 ob (ob+1) base (Pk.run M.nx M.k s).ck (Pk.run M.nx M.k s).nt (Pk.run M.nx M.k s).bs (Pk.run M.nx M.k s).df vb vd vc vn w') (λx _=>M.nlb-(intOf x).toNat)
 ·exact⟨0,_,_,_,_,by omega,rfl,S0⟩
 clear S0;obtain⟨s,vb,vd,vc,vn,hs,rfl,S⟩:=hrel;have m2:=(HA.out.below S.bel).c2;have I:=Pk.inv M.nx M.k s;by_cases aZ:s<M.nlb
 ·have bZ:(s:Int)<(M.nlb:Int):=by omega
  have bX:(Pk.run M.nx M.k s).ck.length<=24576:=ZJ I.l2 (ZJ (Nat.mul_le_mul (show s<=96 by omega) j) (by omega));have b7:(Pk.run M.nx M.k s).df.length<=96:=by rw[I.l4];omega
  have b6:(Pk.run M.nx M.k s).bs.length<=96:=by rw[I.l3];omega
  have af:=I.l1;have HN:Hid (Cp 72 #[pT ob,I6 s] wr λe w'=>∃v,e=.returned (.tuple #[I6 (Pk.df M.nx M.k s),v])/\OwnL wr.heap.size v (Xm (Pk.own M.nx M.k s)) w'/\Bl wr w'):=GQ ob M.k A.a3 M.nnx A.c3 M.nx s wr (S.rw HI) j a0 (by omega) (ag s aZ);have al:Hid (Pk.run M.nx M.k (s+1)=Pk.step M.nx M.k (Pk.run M.nx M.k s) s):=rfl;have bC:Hid ((Pk.own M.nx M.k s).length<=256):=by
   show _<=_;unfold Pk.own;rw[Pk.near_own];exact ZJ (Pk.dif_len _ _ _ _ _) j
  have ak:Hid (∀c∈Pk.own M.nx M.k s,c<M.k):=λc hc=>Pk.own_lt hc
  unfold Pk.step at al;clear I;generalize Pk.run M.nx M.k s=R at *;generalize Pk.own M.nx M.k s=own at *;have bN:=bC.out;go_wp2_with fail;refine HN.out.mono ?_;rintro e w2 ⟨v2,rfl,U,aH⟩;have ar:∀k,v2.ownBlock=some k->wr.heap.size<=k:=λk j=>(U.blk k j).1
  have S2:=S.below aH;have n1:Tw v2 vc:=λk h1 h2=>by have:=ar k h1;have:=(S.c.c.blk k h2).2;omega
  have n2:Tw v2 vn:=λk h1 h2=>by have:=ar k h1;have:=(S.c.n.blk k h2).2;omega
  have ah:base<=wr.heap.size:=S.bw;have aj:Hid (Cp 73 #[.pointer (some (a_ (ob+1) 0)),v2] w2 λe w'=>e=.returned (I6 (Pk.bas R.ck own))/\w'=w2):=JJ base (ob+1) vc vn R.ck R.nt _ v2 own w2 S2.c U (by omega) bN (λc hc=>by have:=ak.out c hc;omega);obtain⟨f,aq⟩:∃f,f=Pk.bas R.ck own:=⟨_,rfl⟩;have bV:f<=R.ck.length:=by rw[aq];exact(Pk.bas_spec _ _).2.1
  rw[<-aq]at aj al;have aB:Hid (∀i,(Pk.lay M.nx M.k s f (own.take i) (R.ck,R.nt)).1.length=(Pk.lay M.nx M.k s f (own.take i) (R.ck,R.nt)).2.length/\(Pk.lay M.nx M.k s f (own.take i) (R.ck,R.nt)).1.length<=24576+256):=λi=>by
   have h:=Pk.lay_len M.nx M.k s f (own.take i) (R.ck,R.nt) af (λc hc=>ak.out c (List.mem_of_mem_take hc));refine⟨h.1,?_⟩;have:=h.2.2;simp only at this;omega
  clear aq HN S m2 aH;obtain⟨a2,c2,rfl,_⟩:=U.il;rw[Xy]at *;have bW:f<=24576:=by omega
  go_wp2_with fail;refine aj.out.mono ?_;rintro e w2 ⟨rfl,rfl⟩;clear aj;go_wp2_with fail
  go_loopw [67] (λx w'=>∃(i:Nat) (vc' vn':Value),i<=own.length/\x=I6 i/\QI w M A w.heap.size tb g1 g2 ob (ob+1) base (Pk.lay M.nx M.k s f (own.take i) (R.ck,R.nt)).1 (Pk.lay M.nx M.k s f (own.take i) (R.ck,R.nt)).2 R.bs R.df vb vd vc' vn' w'/\OwnL base (.slice a2 own.length c2) (Xm own) w'/\Tw (.slice a2 own.length c2) vc'/\Tw (.slice a2 own.length c2) vn') (λx _=>own.length-(intOf x).toNat)
  ·exact⟨0,vc,vn,by omega,rfl,by rw[List.take_zero];exact S2,U.mono ah,n1,n2⟩
  clear S2 n1 n2 U ar ah;obtain⟨i,vc',vn',hi,rfl,Z,ac,n1,n2⟩:=hrel;by_cases aU:i<own.length
  ·have bY:(i:Int)<(own.length:Int):=by omega
   obtain⟨c,hc⟩:∃c,own[i]?=some c:=⟨own[i],Zd aU⟩;have bH:=ak.out c (List.mem_of_getElem? hc);obtain⟨b1,bT,a7,bd⟩:=ac.il;obtain⟨gv,ov,aT,cv⟩:=bd i (by rw[Xy];exact aU);have a8:=(Value.slice.inj a7).1;rw[aT]at a8;subst a8;simp only[QW hc]at cv;have HL:Hid (Cp 74 #[pT ob,I6 s,I6 c] wr λe w'=>e=.returned (I6 (Pk.ld M.nx M.k s c))/\Bl wr w'):=Qv ob M.k A.a3 M.nnx A.c3 M.nx s c wr (Z.rw HI) j a0 (Or.inr ⟨s,rfl,by omega,ag s aZ⟩) bH;have HT:Hid (Pk.lay M.nx M.k s f (own.take (i+1)) (R.ck,R.nt)=(Pk.put (Pk.lay M.nx M.k s f (own.take i) (R.ck,R.nt)).1 (f+c) s,Pk.put (Pk.lay M.nx M.k s f (own.take i) (R.ck,R.nt)).2 (f+c) (Pk.ld M.nx M.k s c))):=Kl M.nx M.k s f own (R.ck,R.nt) i c hc;obtain⟨be,bS⟩:=aB.out i;obtain⟨k,ik⟩:∃k:Nat,(f:Int)+(c:Int)=(k:Int):=⟨f+c,by omega⟩;have au:k=f+c:=by omega
   have az:Hid (∀w',QI w M A w.heap.size tb g1 g2 ob (ob+1) base (Pk.lay M.nx M.k s f (own.take i) (R.ck,R.nt)).1 (Pk.lay M.nx M.k s f (own.take i) (R.ck,R.nt)).2 R.bs R.df vb vd vc' vn' w'->Cp 75 #[.pointer (some (a_ (ob+1) 0)),I6 k,I6 s,I6 (Pk.ld M.nx M.k s c)] w' λe w''=>e=.returned (.tuple #[])/\∃vc'' vn'',Cs base (ob+1) vc'' vn'' (Pk.put (Pk.lay M.nx M.k s f (own.take i) (R.ck,R.nt)).1 (f+c) s) (Pk.put (Pk.lay M.nx M.k s f (own.take i) (R.ck,R.nt)).2 (f+c) (Pk.ld M.nx M.k s c)) w''/\WN (ob+1) vc' vn' vc'' vn'' w' w''):=λw' h'=>by
    rw[<-au];exact DU base (ob+1) vc' vn' _ _ k s (Pk.ld M.nx M.k s c) w' h'.c be (by omega) (by omega) h'.bw
   have b0:Hid (k=f+c):=au;clear bd a7 aT be bS au hc;go_wp2_with fail;refine HL.out.mono ?_;rintro e w4 ⟨rfl,an⟩;have S4:=Z.below an;have V:=ac.below an;clear Z ac an HL cv;go_wp2_with fail;refine(az _ S4).mono ?_;rintro e w5 ⟨rfl,bi,bm,C5,P5⟩;have S5:=S4.put C5 P5;have ao:OwnL base (.slice (some (a_ gv ov)) own.length c2) (Xm own) w5:=V.keep (λk j=>P5.kept k (V.blk k j).2 (by have:=(V.blk k j).1;have:=S4.c.lt;omega) (n1 k j) (n2 k j));have n3:Tw (.slice (some (a_ gv ov)) own.length c2) bi:=λk h1 h2=>by
    rcases P5.oc k h2 with e|e
    ·exact n1 k h1 e
    have:=(V.blk k h1).2;omega
   have n4:Tw (.slice (some (a_ gv ov)) own.length c2) bm:=λk h1 h2=>by
    rcases P5.on k h2 with e|e
    ·exact n2 k h1 e
    have:=(V.blk k h1).2;omega
   go_wp2_with fail;go_roundw
   ·refine⟨i+1,bi,bm,by omega,by go_num,?_,ao,n3,n4⟩;rw[HT.out];exact S5
   simp[intOf];omega
  have bJ:¬(i:Int)<(own.length:Int):=by omega
  have aV:own.take i=own:=List.take_of_length_le (by omega);rw[aV]at Z;clear ac n1 n2 aV;obtain⟨ad,cd,rfl,_⟩:=Z.d.il;obtain⟨ab,cb,rfl,_⟩:=Z.b.il;have d4:=(Z.t 4 _ rfl).1;obtain⟨aI,_,bM,bG,aW,_⟩:=Z.ready (Pk.df M.nx M.k s);have bn:Hid (∀w5,(wr.alloc (.cells #[I6 (Pk.df M.nx M.k s)] 3)).grownBy w5 (Value.slice ad R.df.length cd).ownBlock->w5.cell? (a_ tb 4)=some (.slice ad R.df.length cd)/\w5.frozen? (a_ tb 4)=false):=aW;have HX:Hid (∀g cap w5,OwnL base (sL g (R.df.length+1) cap) (R.df++[Pk.df M.nx M.k s]) w5->(wr.alloc (.cells #[I6 (Pk.df M.nx M.k s)] 3)).grownBy w5 (Value.slice ad R.df.length cd).ownBlock->((Value.slice ad R.df.length cd).ownBlock=some g\/g=(wr.alloc (.cells #[I6 (Pk.df M.nx M.k s)] 3)).heap.size) ->
    QI w M A w.heap.size tb g1 g2 ob (ob+1) base (Pk.lay M.nx M.k s f own (R.ck,R.nt)).1 (Pk.lay M.nx M.k s f own (R.ck,R.nt)).2 R.bs (R.df++[Pk.df M.nx M.k s]) (.slice ab R.bs.length cb) (sL g (R.df.length+1) cap) vc' vn' (w5.setCell (a_ tb 4) (sL g (R.df.length+1) cap))):=λg cap w5 h1 h2 h3=>Z.pushD rfl h1 h2 h3
  clear Z aW;have bt:Hid (∀(w5:World) (a:Addr) (u bj:Value),QI w M A w.heap.size tb g1 g2 ob (ob+1) base (Pk.lay M.nx M.k s f own (R.ck,R.nt)).1 (Pk.lay M.nx M.k s f own (R.ck,R.nt)).2 R.bs (R.df++[Pk.df M.nx M.k s]) (.slice ab R.bs.length cb) bj vc' vn' (w5.setCell a u) ->
    OwnL base (.slice ab R.bs.length cb) R.bs ((w5.setCell a u).alloc (.cells #[I6 (f:Int)] 3))/\((w5.setCell a u).alloc (.cells #[I6 (f:Int)] 3)).cell? (a_ w5.heap.size 0)=some (I6 (f:Int))/\base<=((w5.setCell a u).alloc (.cells #[I6 (f:Int)] 3)).heap.size /\
    ∀w7,((w5.setCell a u).alloc (.cells #[I6 (f:Int)] 3)).grownBy w7 (Value.slice ab R.bs.length cb).ownBlock->w7.cell? (a_ tb 3)=some (.slice ab R.bs.length cb)/\w7.frozen? (a_ tb 3)=false):=λw5 a u bj h=>by
   have bQ:(w5.setCell a u).heap.size=w5.heap.size:=by simp[World.setCell]
   obtain⟨_,h2,h3,h4,_,h6⟩:=h.ready (f:Int);rw[bQ]at h3;exact⟨h2,h3,h4,h6⟩
  go_wp2_with (first
   |(at_builtin;refine wpList_append_int (by rfl) _ _ (by rfl) base (.slice ad R.df.length cd) R.df (by rfl) aI (by omega) wr.heap.size (Pk.df M.nx M.k s) (by rfl) bM bG _ rfl ?_;intro g cap w5 ao Y bI b8;obtain⟨c5,b2⟩:=bn.out w5 Y;have S5:=HX.out g cap w5 ao Y bI;have c6:=(S5.t 3 _ rfl).1;obtain⟨bD,bL,bF,aX⟩:=bt.out w5 _ _ _ S5;have bp:Hid (∀w7,((w5.setCell (a_ tb 4) (sL g (R.df.length+1) cap)).alloc (.cells #[I6 (f:Int)] 3)).grownBy w7 (Value.slice ab R.bs.length cb).ownBlock->w7.cell? (a_ tb 3)=some (.slice ab R.bs.length cb)/\w7.frozen? (a_ tb 3)=false):=aX;clear aX aI)
   |(at_builtin;refine wpList_append_int (by rfl) _ _ (by rfl) base (.slice ab R.bs.length cb) R.bs (by rfl) bD (by omega) w5.heap.size (f:Int) (by rfl) bL bF _ rfl ?_;intro g7 bU w7 bE G aS b9;obtain⟨c7,b4⟩:=bp.out w7 G))
  have S7:=S5.pushB rfl bE G aS;go_roundw
  ·have E:∀vb vd vc vn W,QI w M A w.heap.size tb g1 g2 ob (ob+1) base (Pk.lay M.nx M.k s f own (R.ck,R.nt)).1 (Pk.lay M.nx M.k s f own (R.ck,R.nt)).2 (R.bs++[(f:Int)]) (R.df++[Pk.df M.nx M.k s]) vb vd vc vn W->QI w M A w.heap.size tb g1 g2 ob (ob+1) base (Pk.run M.nx M.k (s+1)).ck (Pk.run M.nx M.k (s+1)).nt (Pk.run M.nx M.k (s+1)).bs (Pk.run M.nx M.k (s+1)).df vb vd vc vn W:=by
    rw[al.out];exact λ_ _ _ _ _ h=>h
   exact⟨s+1,_,_,_,_,by omega,by go_num,E _ _ _ _ _ S7⟩
  simp[intOf];omega
 have⟨bJ,hsn⟩:¬(s:Int)<(M.nlb:Int)/\s=M.nlb:=by omega
 subst hsn;obtain⟨o,r,a9,_⟩:=S.c.c.il;obtain⟨y,z,bc,_⟩:=S.c.n.il;generalize (Pk.run M.nx M.k M.nlb).ck.length=lc at a9;generalize (Pk.run M.nx M.k M.nlb).nt.length=ln at bc;subst a9;subst bc;obtain⟨t5,cf,bO,bR,W9,aM,aY,a6⟩:=S.last O (by unfold Mc.st;rfl);obtain⟨q5,cc⟩:=S.t 5 _ rfl;obtain⟨q6,ce⟩:=t5 6 _ rfl;have c0:=(S.c.s 0 _ rfl).1;have bv:Hid (SL M w (.returned (.tuple #[.agg (Xq M g1 g2 vb vd (.slice o lc r) (.slice y ln z)),I6 0])) W9):=a6;have aA:Hid (W9=((wr.setCell (a_ tb 5) (.slice o lc r)).setCell (a_ tb 6) (.slice y ln z)).setCells w.heap.size 0 (Xq M g1 g2 vb vd (.slice o lc r) (.slice y ln z)).toList):=aM;have br:Hid ((loadVar 83 (a_ w.heap.size 0)).run Tryz.prog W9=.ok (.agg (Xq M g1 g2 vb vd (.slice o lc r) (.slice y ln z))) W9):=aY;have o1:=S.b.one;have o2:=S.d.one;have o3:=S.c.c.one;have o4:=S.c.n.one;have HO:Hid (vb.oneCell'=true/\vd.oneCell'=true/\(Value.slice o lc r).oneCell'=true/\(Value.slice y ln z).oneCell'=true):=⟨o1,o2,o3,o4⟩;have a4:(#[I6 M.rules,sL g1 M.ncl M.ncl,sL g2 M.nlb M.nlb,vb,vd,.slice o lc r,.slice y ln z]:Array Value).all (·.oneCell')=true:=Zj (λv hv=>by
  simp only[ZR,List.not_mem_nil,or_false]at hv;rcases hv with rfl|rfl|rfl|rfl|rfl|rfl|rfl
  ·rfl
  ·rfl
  ·rfl
  ·exact HO.out.1
  ·exact HO.out.2.1
  ·rfl
  rfl)
 clear a6 aM aY t5 S o1 o2 o3 o4 HO;unfold Xq at aA;go_wp2_with (first
  |(refine Zb rfl 83 _ rfl tb 0 rfl [I6 M.rules,sL g1 M.ncl M.ncl,sL g2 M.nlb M.nlb,vb,vd,.slice o lc r,.slice y ln z] _ bO u_k rfl Yd ?_)
  |(refine Za rfl 83 _ _ rfl w.heap.size 0 #[I6 M.rules,sL g1 M.ncl M.ncl,sL g2 M.nlb M.nlb,vb,vd,.slice o lc r,.slice y ln z] rfl rfl bR Yd a4 ?_;rw[<-aA.out]))
 refine Zr (v:=.tuple #[.agg (Xq M g1 g2 vb vd (.slice o lc r) (.slice y ln z)),I6 0]) (Wj Tryz.results35 rfl br rfl) rfl bv.out
theorem WO.at_ (h:WO M) (s c:Nat) (hs:s<M.nlb) (y:c<M.k):-1<=M.nx (s*M.k+c)/\M.nx (s*M.k+c)<M.nlb:=by
 have a:=h.b (s*M.k+c) (by
  rw[h.e];have:(s+1)*M.k<=M.nlb*M.k:=ZQ _ hs;rw[Nat.succ_mul]at this;omega)
 omega
theorem Qs {M:Mc} (h:WO M):QE (WY M):=by
 have I:Pk.Inv M.nx M.k M.nlb M.st:=Pk.inv M.nx M.k M.nlb;have r:=h.hd.2.1;have q:=h.k1;have b:∀j,j<M.st.ck.length->M.st.ck.getD j 0=M.st.ck.getD j (-1):=λj d=>Su _ _ _ _ d
 have f:∀j,j<M.st.ck.length->M.st.nt.getD j 0=M.st.nt.getD j (-1):=λj d=>Su _ _ _ _ (by rw[<-I.l1];exact d)
 refine⟨h.hd,I.l3,I.l4,I.l1.symm,?_,I.b3,λi p=>?_,λj d=>?_,?_⟩
 ·exact ZJ I.l2 (Nat.mul_le_mul r.2 q.2)
 ·show -1<=M.st.df.getD i 0/\M.st.df.getD i 0<i;rw[I.b4 i p];exact Pk.df_bd _ _ _
 ·unfold We;show(M.st.ck.getD j 0=-1/\M.st.nt.getD j 0=-1)\/_;have a:=d;rcases I.cs j a with ⟨h1,h2⟩|⟨i,c,h1,h2,h3,s,o⟩
  ·left;rw[b j a,f j a];exact⟨h1,h2⟩
  right;have g:(WY M).ck j=i:=by show M.st.ck.getD j 0=_;rw[b j a,h3]
  have e2:(WY M).nx j=M.nx (i*M.k+c):=by show M.st.nt.getD j 0=_;rw[f j a,o,Pk.ld_nat]
  have l:(WY M).bs i=M.st.bs.getD i 0:=rfl;have m:(WY M).nlb=M.nlb:=rfl;have n:Vg (WY M).cl (WY M).ncl=M.k:=rfl;have:=h.at_ i c h1 h2;rw[g,e2,m,n,ZE,l];omega
 show M.st.ck.length=0\/M.st.ck.getD (M.st.ck.length-1) 0≠-1;rcases I.la with h0|h0
 ·exact Or.inl h0
 by_cases e:M.st.ck.length=0
 ·exact Or.inl e
 right;rw[b _ (by omega)];exact h0
end
section
open Go.RowKit
open Bm
variable {x:Int}{L:List Value}{M:Mc}{B base cap g g1 g2 k mb n q rb t:Nat}{V:Nat->Value}{ob:Obj}{ad:Option Addr}{v vb vc vd vn:Value}{W W' W1 w w2 w5:World}
theorem BG.tb (h:BG B M g1 g2 vb vd vc vn W):∃A:Pc,Xq M g1 g2 vb vd vc vn=A.cells (WY M)/\Sh (WY M) A W:=by
 obtain⟨a,c3,h3,m⟩:=h.b.il;obtain⟨e,c4,j,o⟩:=h.d.il;obtain⟨f,c5,k,p⟩:=h.c.il;obtain⟨g,i,l,q⟩:=h.n.il;refine⟨⟨some (a_ g1 0),M.ncl,some (a_ g2 0),M.nlb,a,c3,e,c4,f,c5,g,i⟩,?_,h.k1.il (Zg _),h.k2.il (Zg _),m,o,p,q⟩;rw[h3,j,k,l];rfl
theorem KB (h:WO M):IF (WY M):=by
 have a:=Qs h;have c:=h.hd.2.1;have h1:=h.ncl;have b:(WY M).ncl=M.ncl:=rfl;have e2:(WY M).nlb=M.nlb:=rfl;have:=a.e3;have:=a.e4;have:=a.e5;have:=a.e6;exact⟨by omega,by omega,by omega,by omega,by omega,by omega⟩
theorem LR (ad:Option Addr) (n cap:Nat) (f:Nat->Int) (w w2:World) (hn:n<=17592186044416)
  (hcp:(Builtin.copy_ #[23,23] 3 #[.slice (some (a_ w.heap.size 0)) n n,.slice ad n cap]).run Tryz.prog (w.alloc (.cells (Vy n) 3))=.ok (goInt n) w2)
  (hW2:Bl w w2) (hR:XB w.heap.size f n w2):
  Cp 119 #[.slice ad n cap] w λe w'=>e=.returned (.slice (some (a_ w.heap.size 0)) n n)/\XB w.heap.size f n w'/\Bl w w':=by
 have a:=Ow w n hn;go_enter Tryz.func119,Tryz.ntmps119;go_wp2;go_ret;exact⟨rfl,hR,hW2⟩
theorem Sd (ad:Option Addr) (n cap:Nat) (f:Nat->Int) (w:World) (hn:n<=17592186044416) (hr:IL ad f n w):
  Cp 119 #[.slice ad n cap] w λe w'=>e=.returned (.slice (some (a_ w.heap.size 0)) n n)/\XB w.heap.size f n w'/\Bl w w':=by
 obtain⟨w2,h1,h2,h3⟩:=Mz ad n cap n f w (Zg _) hr;exact LR ad n cap f w w2 hn h1 h2 (h3.congr (λk a=>by simp[a]))
theorem M1 (M:Mc) (A:Ux) (s:Nat) (d:Int) (w:World) (hS:WO M) (hI:QH M A w) (hs:s<M.nlb) (hd:d=-1\/∃m:Nat,d=m/\m<M.nlb):
  Cp 121 #[.agg (A.cells M),.int .i64 M.k,.int .i64 s,.int .i64 d] w λe w'=>∃v,e=.returned v/\OwnL w.heap.size v (Xm (Pk.dif M.nx M.k s d M.k)) w'/\Bl w w':=by
 obtain⟨W,S⟩:=nam (w.alloc (.cells (A.cells M) 25));have x0:Bl w W:=by rw[S];exact Yg _ _
 have hA:WD w.heap.size M A W:=by rw[S];exact WD.boxed M A w _
 have R:=hI.below x0;have ae:=hS.hd.2.1;have hk:=hS.k1;have an:M.nnx<=24576:=by rw[hS.e];exact Nat.mul_le_mul ae.2 hk.2
 have E:Hid (∀m c,m<M.nlb->c<M.k->m*M.k+c<M.nnx):=λm c hm hc=>by
  have:(m+1)*M.k<=M.nlb*M.k:=ZQ _ hm;rw[hS.e];rw[Nat.succ_mul]at this;omega
 have N:Hid (∀w',Bl W w'->w'.cell? (a_ w.heap.size 3)=some (.slice A.a3 M.nnx A.c3)):=λw' Z=>(hA.below Z).c3
 have O:Hid (∀w',Bl W w'->IL A.a3 M.nx M.nnx w'):=λw' Z=>(R.below Z).l3
 have Y:Hid (Bl w W):=x0;have H0:Hid (Bl W W):=Zk _ _;obtain⟨ps,D⟩:∃ps:Nat,ps=s*M.k:=⟨_,rfl⟩;have ap:(s:Int)*(M.k:Int)=(ps:Int):=by rw[D];simp
 have ak:ps<=24576:=by rw[D];exact Nat.mul_le_mul (show s<=96 by omega) hk.2
 have P:=hyd D;unfold Ux.cells at S ⊢;clear hA R hI hS x0 D;go_enter Tryz.func121,Tryz.ntmps121;go_wp2;rw[<-S];clear S
 go_loopw [9,10] (λv x w'=>∃k:Nat,k<=M.k/\x=.int .i64 k/\OwnL W.heap.size v (Xm (Pk.dif M.nx M.k s d k)) w'/\Bl W w') (λ_ x _=>M.k-(intOf x).toNat)
 ·exact⟨0,by omega,rfl,OwnL.nil _ _,H0⟩
 obtain⟨c,hc,rfl,u,b⟩:=hrel;by_cases T:c<M.k
 ·have ai:(c:Int)<(M.k:Int):=by omega
  have V:=N.out wr b;have ag:ps+c<M.nnx:=by rw[P.out];exact E.out s c hs T
  obtain⟨q,K⟩:∃q:Nat,q=ps+c:=⟨_,rfl⟩;have iq:(ps:Int)+(c:Int)=(q:Int):=by omega
  have⟨hqn,hqn'⟩:q<M.nnx/\(q:Int)<(M.nnx:Int):=by omega
  obtain⟨g,o,hg,cq⟩:=O.out wr b q hqn;have H:Pk.ld M.nx M.k (s:Int) c=M.nx q:=by rw[Pk.ld_nat,K,P.out]
  have am:=Pk.dif_len M.nx M.k s d c;have U:Hid (∀y,Pk.ld M.nx M.k d c=y->(M.nx q=y->Pk.dif M.nx M.k s d (c+1)=Pk.dif M.nx M.k s d c)/\(¬M.nx q=y->Pk.dif M.nx M.k s d (c+1)=Pk.dif M.nx M.k s d c++[c])):=λy F=>⟨λh=>Pk.dif_eq (by rw[H,F];exact h),λh=>Pk.dif_ne (by rw[H,F];exact h)⟩
  rw[hg]at V;generalize M.nx q=z at *;clear H K ag hg;rcases hd with rfl|⟨m,rfl,hm⟩
  ·have F:Pk.ld M.nx M.k (-1) c=-1:=Pk.ld_none _ _ _;obtain⟨h1,h2⟩:=U.out (-1) F;clear F U;by_cases f:z=-1
   ·have B:=h1 f;rw[<-B]at u;have q2:(z != -1)=false:=by simp[f]
    clear h1 h2 B f;go_wp2;go_roundw
    ·exact⟨c+1,by omega,by go_num,u,b⟩
    simp[intOf];omega
   have X:=hyd (h2 f);have q2:(z != -1)=true:=by simp[f]
   have J:=box_bel wr (.cells #[.int .i64 (c:Int)] 3);have j:=u.below J;have i:=b.trans (J.mono b.size);have p:=j.blk;have I:(wr.alloc (.cells #[.int .i64 (c:Int)] 3)).cell? (a_ wr.heap.size 0)=some (.int .i64 (c:Int)):=by rw[Zm];rfl
   have n:=i.size;clear f J u b h1 h2;go_wp2_with (first|(at_builtin;refine wpList_append_int (by rfl) _ _ (by rfl) W.heap.size u9 (Xm (Pk.dif M.nx M.k s (-1) c)) (by rfl) j (by rw[Xy];omega) wr.heap.size c (by rfl) I n _ rfl ?_;intro g5 Q w5 l a aa ac));have B:Xm (Pk.dif M.nx M.k s (-1) c)++[(c:Int)]=Xm (Pk.dif M.nx M.k s (-1) (c+1)):=by rw[X.out,Td];rfl
   rw[B]at l;go_roundw
   ·exact⟨c+1,by omega,by go_num,l,i.grown a n (λq K=>(p q K).1)⟩
   simp[intOf];omega
  obtain⟨L,t⟩:∃L:Nat,L=m*M.k:=⟨_,rfl⟩;have ao:(m:Int)*(M.k:Int)=(L:Int):=by rw[t];simp
  have aj:L<=24576:=by rw[t];exact Nat.mul_le_mul (show m<=96 by omega) hk.2
  obtain⟨r,hr⟩:∃r:Nat,r=L+c:=⟨_,rfl⟩;have ir:(L:Int)+(c:Int)=(r:Int):=by omega
  have ah:r<M.nnx:=by rw[hr,t];exact E m c hm T
  have al:(r:Int)<(M.nnx:Int):=by omega
  obtain⟨g2,o2,G,cr⟩:=O.out wr b r ah;have m4:=N.out wr b;rw[m4]at V;have C:=(Value.slice.inj (Zh V)).1;rw[G]at C;have ab:g2=g:=by cases C;rfl
  have af:o2=o:=by cases C;rfl
  subst ab;subst af;rw[G]at m4;have F:Pk.ld M.nx M.k (m:Int) c=M.nx r:=by rw[Pk.ld_nat,hr,t]
  obtain⟨h1,h2⟩:=U.out _ F;have aq:((m:Int) != -1)=true:=by simp
  generalize M.nx r=y at *;clear F U V C G hr t;by_cases f:z=y
  ·have B:=h1 f;rw[<-B]at u;have q2:(z != y)=false:=by simp[f]
   clear h1 h2 B f;go_wp2;go_roundw
   ·exact⟨c+1,by omega,by go_num,u,b⟩
   simp[intOf];omega
  have X:=hyd (h2 f);have q2:(z != y)=true:=by simp[f]
  have J:=box_bel wr (.cells #[.int .i64 (c:Int)] 3);have j:=u.below J;have i:=b.trans (J.mono b.size);have p:=j.blk;have I:(wr.alloc (.cells #[.int .i64 (c:Int)] 3)).cell? (a_ wr.heap.size 0)=some (.int .i64 (c:Int)):=by rw[Zm];rfl
  have n:=i.size;clear f J u b h1 h2;go_wp2_with (first|(at_builtin;refine wpList_append_int (by rfl) _ _ (by rfl) W.heap.size u9 (Xm (Pk.dif M.nx M.k s m c)) (by rfl) j (by rw[Xy];omega) wr.heap.size c (by rfl) I n _ rfl ?_;intro g5 Q w5 l a aa ac));have B:Xm (Pk.dif M.nx M.k s m c)++[(c:Int)]=Xm (Pk.dif M.nx M.k s m (c+1)):=by rw[X.out,Td];rfl
  rw[B]at l;go_roundw
  ·exact⟨c+1,by omega,by go_num,l,i.grown a n (λq K=>(p q K).1)⟩
  simp[intOf];omega
 have⟨hge,hcn⟩:¬(c:Int)<(M.k:Int)/\c=M.k:=by omega
 go_wp2;go_ret;refine⟨u9,rfl,?_,Y.out.trans (b.mono Y.out.size)⟩;rw[hcn]at u;exact u.mono Y.out.size
theorem KO (B1 B2 b:Nat) (vc v:Value) (ck:List Int) (l:List Nat) (w:World) (hc:OwnL B1 vc ck w) (hv:OwnL B2 v (Xm l) w) (hb:b<=100000) (_hck:ck.length<=100000) (hl:l.length<=256) (hl2:∀c∈l,c<256):
  Cp 122 #[vc,.int .i64 b,v] w λe w'=>e=.returned (.bool (Pk.fr ck b l))/\w'=w:=by
 obtain⟨ad,cap,rfl,il⟩:=hc.il;obtain⟨P,Q,rfl,C⟩:=hv.il;rw[Xy]at C ⊢;have I:=hyd il;have J:=hyd C;clear hc hv il C;go_enter Tryz.func122,Tryz.ntmps122;go_wp2
 go_loop [7] (λx=>∃i:Nat,i<=l.length/\x=.int .i64 i/\Hid (∀j c,j<i->l[j]?=some c->ck.getD (b+c) (-1)=-1)) (λx=>l.length-(intOf x).toNat)
 ·exact⟨0,by omega,rfl,λj c z=>by omega⟩
 obtain⟨i,S,rfl,n⟩:=hrel;by_cases r:i<l.length
 ·have H:(i:Int)<(l.length:Int):=by omega
  obtain⟨c,hc⟩:∃c,l[i]?=some c:=⟨l[i],Zd r⟩;obtain⟨R,U,rfl,u⟩:=J.out i r;simp only[QW hc]at u;have y:=hl2 c (List.mem_of_getElem? hc);have D:=hyd hc;obtain⟨k,G⟩:∃k:Nat,k=b+c:=⟨_,rfl⟩;have E:=hyd G;have T:(b:Int)+(c:Int)=(k:Int):=by omega
  have M:k<=200000:=by omega
  have a:Hid (ck.getD k (-1)=-1->∀j c,j<i+1->l[j]?=some c->ck.getD (b+c) (-1)=-1):=λh0 j K z m=>by
   by_cases e:j=i
   ·subst e;rw[D.out]at m;cases m;rw[<-E.out];exact h0
   exact n j K (by omega) m
  clear hc G;by_cases p:k<ck.length
  ·have q:(k:Int)<(ck.length:Int):=by omega
   obtain⟨g,o,rfl,F⟩:=I.out k p;simp only[Su ck k 0 (-1) p]at F;obtain⟨x,B⟩:=nam (ck.getD k (-1));rw[<-B]at F;have s:=hyd B;clear B;by_cases d:x=-1
   ·have f:=hyd (a.out (by rw[<-s.out];exact d));have N:(x==-1)=true:=by simpa using d
    have O:(x != -1)=false:=by simp[d]
    clear d s n a;go_wp2
    go_round
    ·exact⟨i+1,by omega,by go_num,f⟩
    simp[intOf];omega
   have N:(x==-1)=false:=by simpa using d
   have O:(x != -1)=true:=by simp[d]
   have t:Hid (Pk.fr ck b l=false):=by
    show _=_;rw[<-Bool.not_eq_true,Pk.fr_iff];exact λh=>d (by rw[s.out,E.out];exact h c (List.mem_of_getElem? D.out))
   clear d s n a;go_wp2;go_ret;exact⟨YN t.out.symm,rfl⟩
  have q:¬(k:Int)<(ck.length:Int):=by omega
  have f:=hyd (a (Pk.getD_out _ _ _ (by omega)));clear n a;go_wp2
  go_round
  ·exact⟨i+1,by omega,by go_num,f⟩
  simp[intOf];omega
 have L:¬(i:Int)<(l.length:Int):=by omega
 have t:Hid (Pk.fr ck b l=true):=by
  show _=_;rw[Pk.fr_iff];intro c hc;obtain⟨j,z,A⟩:=List.getElem_of_mem hc;exact n j c (by omega) (by rw[Zd z,A])
 clear n;go_wp2;go_ret;exact⟨YN t.out.symm,rfl⟩
def RP {α:Type} (f:Nat->α) (k:Nat) (v:α):Nat->α:=λj=>if j=k then v else f j
theorem RQ {α:Type} (f:Nat->α) (k:Nat) (v:α):RP f k v k=v:=if_pos rfl
theorem UF {α:Type} (f:Nat->α) {k j:Nat} (v:α) (h:j≠k):RP f k v j=f j:=if_neg h
def L4 (bs df ck nt:List Int):Nat->List Int:=λk=>if k=3 then bs else if k=4 then df else if k=5 then ck else if k=6 then nt else []
theorem Cy:L4 [] [] [] []=fun _=>[]:=by funext k;simp[L4]
theorem BE (a b c d x:List Int):RP (L4 a b c d) 3 x=L4 x b c d:=by
 funext k;unfold RP L4;by_cases h:k=3<;>simp[h]
theorem BF (a b c d x:List Int):RP (L4 a b c d) 4 x=L4 a x c d:=by
 funext k;unfold RP L4;by_cases h:k=4<;>simp[h]
theorem BY (a b c d x:List Int):RP (L4 a b c d) 5 x=L4 a b x d:=by
 funext k;unfold RP L4;by_cases h:k=5<;>simp[h]
theorem BZ (a b c d x:List Int):RP (L4 a b c d) 6 x=L4 a b c x:=by
 funext k;unfold RP L4;by_cases h:k=6<;>simp[h]
def PY (M:Mc) (g1 g2:Nat) (V:Nat->Value):List Value:=[.int .i64 M.rules,.slice (some ⟨g1,0,none⟩) M.ncl M.ncl,.slice (some ⟨g2,0,none⟩) M.nlb M.nlb,V 3,V 4,V 5,V 6]
theorem DT (M:Mc) (g1 g2:Nat) (V:Nat->Value) (k:Nat) (h1:3<=k) (h2:k<=6) (v:Value):(PY M g1 g2 V).set k v=PY M g1 g2 (RP V k v):=by
 have:k=3\/k=4\/k=5\/k=6:=by omega
 rcases this with rfl|rfl|rfl|rfl<;>simp[PY,RP]
theorem CU (M:Mc) (g1 g2:Nat) (V:Nat->Value) (k:Nat) (h1:3<=k) (h2:k<=6):(PY M g1 g2 V)[k]?=some (V k):=by
 have:k=3\/k=4\/k=5\/k=6:=by omega
 rcases this with rfl|rfl|rfl|rfl<;>rfl
structure PR (w:World) (M:Mc) (A:Ux) (mb rb tb g1 g2 base:Nat) (L:Nat->List Int) (V:Nat->Value) (W:World):Prop where
 m:WD mb M A W
 z:W.there rb 0 7
 t:TC tb (PY M g1 g2 V) W
 k1:XB g1 M.cl M.ncl W
 k2:XB g2 M.lb M.nlb W
 o:∀k,3<=k->k<=6->OwnL base (V k) (L k) W
 ne:∀j k,3<=j->j<=6->3<=k->k<=6->j≠k->Tw (V j) (V k)
 bel:Below w.heap.size w W
 bw:base<=W.heap.size
 lt:mb<base/\rb<base/\tb<base/\g1<base/\g2<base
 ge:w.heap.size<=rb/\w.heap.size<=tb
 gg:w.heap.size<=g1/\w.heap.size<=g2/\w.heap.size<=base
 d:mb≠tb/\rb≠tb/\g1≠tb/\g2≠tb/\mb≠rb/\g1≠rb/\g2≠rb
variable {tb:Nat}
theorem PR.move {A:Ux}{L L':Nat->List Int}{V':Nat->Value} (h:PR w M A mb rb tb g1 g2 base L V W)
  (hk:∀q,q<base->q≠tb->W'.heap[q]?=W.heap[q]?) (hz:W.heap.size<=W'.heap.size) (ht:TC tb (PY M g1 g2 V') W')
  (ho:∀k,3<=k->k<=6->OwnL base (V' k) (L' k) W') (hne:∀j k,3<=j->j<=6->3<=k->k<=6->j≠k->Tw (V' j) (V' k)) (hB:Bl w W'):
  PR w M A mb rb tb g1 g2 base L' V' W':=by
 obtain⟨f,g,n,i,l⟩:=h.lt;obtain⟨a,b,c,e,_,_,_⟩:=h.d;exact⟨h.m.blk (hk _ f a),Vj h.z (hk _ g b),ht,h.k1.block (hk _ i c),h.k2.block (hk _ l e),ho,hne,hB,ZJ h.bw hz,h.lt,h.ge,h.gg,h.d⟩
theorem PR.below {A:Ux}{L:Nat->List Int} (h:PR w M A mb rb tb g1 g2 base L V W) (hW:Bl W W'):PR w M A mb rb tb g1 g2 base L V W':=
 h.move (λq a _=>hW.block q (ZH a h.bw)) hW.size (h.t.below hW) (λk h1 h2=>(h.o k h1 h2).below hW) h.ne (h.bel.trans (hW.mono h.bel.size))
theorem PR.ready {A:Ux}{L:Nat->List Int} (x:Int) (k:Nat) (h1:3<=k) (h2:k<=6) (h:PR w M A mb rb tb g1 g2 base L V W):
  OwnL base (V k) (L k) (W.alloc (.cells #[.int .i64 x] 3))/\(W.alloc (.cells #[.int .i64 x] 3)).cell? (a_ W.heap.size 0)=some (.int .i64 x)/\base<=(W.alloc (.cells #[.int .i64 x] 3)).heap.size /\
  ∀w5,(W.alloc (.cells #[.int .i64 x] 3)).grownBy w5 (V k).ownBlock->w5.cell? (a_ tb k)=some (V k)/\w5.frozen? (a_ tb k)=false:=by
 have a:=box_bel W (.cells #[.int .i64 x] 3);have d:=h.lt.2.2.1;refine⟨(h.o k h1 h2).below a,by rw[Zm];rfl,ZJ h.bw a.size,λw5 b=>?_⟩;have c:=h.bw;have hz:=a.size;exact((h.t.below a).block (b.block _ (by omega) (λe=>by have:=((h.o k h1 h2).blk _ e.symm).1;omega))) k _ (CU M g1 g2 V k h1 h2)
theorem PR.push {A:Ux}{L:Nat->List Int} (k:Nat) (h1:3<=k) (h2:k<=6) (h:PR w M A mb rb tb g1 g2 base L V W) (hW1:W1=W.alloc ob)
  (h5:OwnL base (sL g ((L k).length+1) cap) (L k++[x]) w5) (hg:W1.grownBy w5 (V k).ownBlock) (hgb:(V k).ownBlock=some g\/g=W1.heap.size):
  PR w M A mb rb tb g1 g2 base (RP L k (L k++[x])) (RP V k (sL g ((L k).length+1) cap)) (w5.setCell (a_ tb k) (sL g ((L k).length+1) cap)):=by
 have x1:Bl W W1:=by rw[hW1];exact box_bel _ _
 have C:W1.heap.size=W.heap.size+1:=by rw[hW1];simp
 have k1:=h.below x1;obtain⟨E,F,G,H,I⟩:=h.lt;have r:=h.ge.2;have D:=h.bw;have B:=(h5.blk g rfl).1;have d:=(h.o k h1 h2).blk;have u:∀q,q≠tb->(w5.setCell (a_ tb k) (sL g ((L k).length+1) cap)).heap[q]?=w5.heap[q]?:=λq a=>Zq w5 (a_ tb k) _ q (λe=>a e)
 have z:∀q,q<W1.heap.size->q≠tb->(V k).ownBlock≠some q->(w5.setCell (a_ tb k) (sL g ((L k).length+1) cap)).heap[q]?=W1.heap[q]?:=λq a h0 h1=>by
  rw[u q h0,hg.block q a (λe=>h1 e.symm)]
 refine k1.move (λq a s=>z q (by omega) s (λe=>by have:=(d q e).1;omega)) (by have:=hg.size;simpa[World.setCell]using this) ?_ (λj b c=>?_) (λi j v y b c f=>?_) ?_
 ·rw[<-DT M g1 g2 V k h1 h2];exact(k1.t.block (hg.block _ (by omega) (λe=>by have:=(d _ e.symm).1;omega))).set k (by simp[PY];omega) _
 ·by_cases e:j=k
  ·subst e;rw[RQ,RQ];exact h5.keep (λq a=>u q (by cases a;show g≠_;omega))
  rw[UF _ _ e,UF _ _ e];have l:=k1.o j b c;exact l.keep (λq a=>z q (l.blk q a).2 (by have:=(l.blk q a).1;omega) (λe2=>h.ne k j h1 h2 b c (λx=>e x.symm) q e2 a))
 ·have m:∀j,3<=j->j<=6->j≠k->Tw (sL g ((L k).length+1) cap) (V j):=λj b c l=>TY rfl hgb (by omega) (λq a=>((h.o j b c).blk q a).2) (h.ne k j h1 h2 b c (λx=>l x.symm))
  by_cases n:i=k
  ·subst n;rw[RQ,UF _ _ (λx=>f x.symm)];exact m j b c (λx=>f x.symm)
  rw[UF _ _ n];by_cases e2:j=k
  ·subst e2;rw[RQ];exact(m i v y n).symm
  rw[UF _ _ e2];exact h.ne i j v y b c f
 exact(k1.bel.grown hg (by omega) (λq a=>by have:=(d q a).1;omega)).setCell (p:=(a_ tb k)) r _
theorem PR.put {A:Ux}{L:Nat->List Int} (k:Nat) (h1:3<=k) (h2:k<=6) {g cap:Nat} (h:PR w M A mb rb tb g1 g2 base L V W) (hv:V k=sL g (L k).length cap) (q:Nat) (x:Int):
  PR w M A mb rb tb g1 g2 base (RP L k ((L k).set q x)) V (W.setCell (a_ g q) (.int .i64 x)):=by
 have b:=h.o k h1 h2;rw[hv]at b;have l:=(b.blk g rfl).1;obtain⟨m,n,s,u,v⟩:=h.lt;have i:=h.ge.2;have c:∀r,r≠g->(W.setCell (a_ g q) (.int .i64 x)).heap[r]?=W.heap[r]?:=λr a=>Zq W (a_ g q) _ r (λe=>a e)
 refine h.move (λr a _=>c r (by omega)) (by simp[World.setCell]) (h.t.block (c _ (by omega))) (λj d f=>?_) h.ne (h.bel.setCell (p:=(a_ g q)) (show w.heap.size<=g by omega) _);by_cases e:j=k
 ·subst e;rw[RQ,hv];exact b.set_ q x
 rw[UF _ _ e];exact(h.o j d f).keep (λr a=>c r (λe2=>h.ne k j h1 h2 d f (λx=>e x.symm) g (by rw[hv];rfl) (by rw[<-e2];exact a)))
theorem Bm.TC.laid (hth:w.there t 0 L.length):TC t L (w.setCells t 0 L):=λk v a=>by
 have h1:=Zo w t 0 L hth k v a;have b:=(Zi.1 a).1;have h2:=(hth k b).2;rw[Zn]at h1 h2;refine⟨h1,?_⟩;rw[World.frozen?_setCells];exact h2
structure Jz (B:Nat) (v:Value) (l:List Int) (V:Nat->Value) (W:World):Prop where
 o:OwnL B v l W
 ne:∀k,3<=k->k<=6->Tw v (V k)
theorem Jz.below {l:List Int} (h:Jz B v l V W) (hW:Bl W W'):Jz B v l V W':=⟨h.o.below hW,h.ne⟩
theorem Jz.push {B:Nat}{v:Value}{l:List Int}{V:Nat->Value}{W W1 w5:World}{tb k g n cap:Nat}{ob:Obj}{u:Value} (h:Jz B v l V W) (k1:3<=k) (k2:k<=6) (hW1:W1=W.alloc ob) (hg:W1.grownBy w5 (V k).ownBlock) (hgb:(V k).ownBlock=some g\/g=W1.heap.size) (hB:tb<B):
  Jz B v l (RP V k (sL g n cap)) (w5.setCell (a_ tb k) u):=by
 have x1:Bl W W1:=by rw[hW1];exact box_bel _ _
 have f:W1.heap.size=W.heap.size+1:=by rw[hW1];simp
 refine⟨((h.o.below x1).grown hg (λq a=>λe=>h.ne k k1 k2 q a e)).keep (λq a=>Zq w5 (a_ tb k) _ q (λe=>by have:=(h.o.blk q a).1;have e2:q=tb:=e;omega)),λj b c=>?_⟩;by_cases e:j=k
 ·subst e;rw[RQ];intro q a e2;have d:g=q:=Zh e2;rcases hgb with h1|h1
  ·rw[d]at h1;exact h.ne j b c q a h1
  have:=(h.o.blk q a).2;omega
 rw[UF _ _ e];exact h.ne j b c
theorem Jz.put {l:List Int}{u:Value} (h:Jz B v l V W) (k1:3<=k) (k2:k<=6) (hv:V k=sL g n cap):Jz B v l V (W.setCell (a_ g q) u):=
 ⟨h.o.keep (λr a=>Zq W (a_ g q) _ r (λe=>h.ne k k1 k2 r a (by rw[hv];show some g=some r;rw[show r=g from e]))),h.ne⟩
theorem PR.init {A:Ux} (hm:WD mb M A w2) (hz:w2.there rb 0 7) (hmb:mb<w2.heap.size) (hrb:rb<w2.heap.size) (hmr:mb≠rb) (hwr:w.heap.size<=rb) (hw2:Bl w w2)
  (hB:Bl w2 W) (k1:XB g1 M.cl M.ncl W) (k2:XB g2 M.lb M.nlb W) (ht:W.there tb 0 7) (t1:w2.heap.size<=tb) (t2:tb<W.heap.size) (a1:w2.heap.size<=g1) (a2:g1<W.heap.size) (b1:w2.heap.size<=g2) (b2:g2<W.heap.size) (n1:g1≠tb) (n2:g2≠tb):
  PR w M A mb rb tb g1 g2 W.heap.size (λ_=>[]) (λ_=>sN) (W.setCells tb 0 (PY M g1 g2 (λ_=>sN))):=by
 have b:=Y8 tb (PY M g1 g2 (λ_=>sN)) 0 W;have a:∀q,q<W.heap.size->q≠tb->(W.setCells tb 0 (PY M g1 g2 (λ_=>sN))).heap[q]?=W.heap[q]?:=λq c g=>b.block q c (λe=>g (Zh e))
 have d:=hw2.size;have f:=hB.size;refine⟨(hm.below hB).blk (a _ (by omega) (by omega)),Vj (XS hz (by omega) hB) (a _ (by omega) (by omega)),Bm.TC.laid ht,k1.block (a _ a2 n1),k2.block (a _ b2 n2),λ_ _ _=>OwnL.nil _ _,λ_ _ _ _ _ _ _ k a=>(by cases a),?_,b.size,⟨by omega,by omega,t2,a2,b2⟩,⟨hwr,by omega⟩,⟨by omega,by omega,by omega⟩,⟨by omega,by omega,n1,n2,hmr,by omega,by omega⟩⟩;exact(hw2.trans (hB.mono d)).grown b (by omega) (λq c=>by cases c;omega)
def Ld (M:Mc) (w:World) (e:Ending) (w':World):Prop:=
 Below w.heap.size w w'/\((¬WO M/\e=.returned (.tuple #[.agg Xi,.int .i64 10])) \/
  (WO M/\∃A:Pc,e=.returned (.tuple #[.agg (A.cells (WY M)),.int .i64 0])/\BI w.heap.size (WY M) A w'))
theorem Bm.OwnL.ilAt {l:List Int} (h:OwnL B (.slice ad n cap) l w):IL ad (λi=>l.getD i 0) l.length w:=by
 obtain⟨a,c,e,i⟩:=h.il;cases e;exact i
theorem DY (hrb:w.heap.size<=rb) (hth:W.there rb 0 7) (hB:Bl w W) (hD:¬WO M):
  ∃W',W'=W.setCells rb 0 Xi.toList/\(loadVar 83 (a_ rb 0)).run Tryz.prog W'=.ok (.agg Xi) W'/\Ld M w (.returned (.tuple #[.agg Xi,.int .i64 10])) W':=by
 refine⟨_,rfl,?_,?_,Or.inl ⟨hD,rfl⟩⟩
 ·exact ZF (P:=Tryz.prog) _ rb 0 83 Xi.toList _ (Zo W rb 0 Xi.toList hth) u_k rfl Yd
 exact hB.grown (Y8 rb Xi.toList 0 W) hB.size (λq a=>by cases a;exact hrb)
theorem PR.last {A:Ux}{L:Nat->List Int} (h:PR w M A mb rb tb g1 g2 base L V W) (hS:WO M) (h3:L 3=M.st.bs) (h4:L 4=M.st.df) (h5:L 5=M.st.ck) (h6:L 6=M.st.nt):
  W.rangeAt tb 0 (PY M g1 g2 V)/\W.there rb 0 7/\((PY M g1 g2 V).toArray.all (·.oneCell')=true) /\
  ∃W',W'=W.setCells rb 0 (PY M g1 g2 V)/\(loadVar 83 (a_ rb 0)).run Tryz.prog W'=.ok (.agg (PY M g1 g2 V).toArray) W'/\Ld M w (.returned (.tuple #[.agg (PY M g1 g2 V).toArray,.int .i64 0])) W':=by
 have l:=Y8 rb (PY M g1 g2 V) 0 W;obtain⟨U,X,Y,Z,l5⟩:=h.lt;obtain⟨_,_,_,_,_,G,H⟩:=h.d;have b:∀k,3<=k->k<=6->OwnL base (V k) (L k) (W.setCells rb 0 (PY M g1 g2 V)):=λk h1 h2=>(h.o k h1 h2).grown l (λq c e=>by have:=((h.o k h1 h2).blk q c).1;have:=Zh e;omega)
 obtain⟨B,c3,f,N⟩:=(b 3 (by omega) (by omega)).il;obtain⟨C,c4,g,O⟩:=(b 4 (by omega) (by omega)).il;obtain⟨D,c5,i,Q⟩:=(b 5 (by omega) (by omega)).il;obtain⟨E,F,j,R⟩:=(b 6 (by omega) (by omega)).il;rw[h3]at f N;rw[h4]at g O;rw[h5]at i Q;rw[h6]at j R;refine⟨h.t.range,h.z,Zj (λv r=>?_),_,rfl,?_,?_,Or.inr ⟨hS,⟨some (a_ g1 0),M.ncl,some (a_ g2 0),M.nlb,B,c3,C,c4,D,c5,E,F⟩,?_,λw'' hz a=>?_⟩⟩
 ·simp only[PY,ZR,List.not_mem_nil,or_false]at r;rcases r with rfl|rfl|rfl|rfl|rfl|rfl|rfl
  ·rfl
  ·rfl
  ·rfl
  ·rw[f];rfl
  ·rw[g];rfl
  ·rw[i];rfl
  rw[j];rfl
 ·exact ZF (P:=Tryz.prog) _ rb 0 83 (PY M g1 g2 V) _ (Zo W rb 0 (PY M g1 g2 V) h.z) u_k rfl Yd
 ·exact h.bel.grown l h.bel.size (λq c=>by cases c;exact h.ge.1)
 ·unfold PY;rw[f,g,i,j];rfl
 have K:(W.setCells rb 0 (PY M g1 g2 V)).heap.size=W.heap.size:=VQ _ _ _ _;have J:=h.bw;obtain⟨n,p,I⟩:=h.gg;have S:=h.k1.block (l.block _ (by omega) (λe=>G (Zh e)));have T:=h.k2.block (l.block _ (by omega) (λe=>H (Zh e)));have m:∀k,3<=k->k<=6->OwnL base (V k) (L k) w'':=λk h1 h2=>(b k h1 h2).keep (λq c=>a q (by have:=((b k h1 h2).blk q c).1;omega) ((b k h1 h2).blk q c).2)
 have s:=m 3 (by omega) (by omega);have u:=m 4 (by omega) (by omega);have x:=m 5 (by omega) (by omega);have y:=m 6 (by omega) (by omega);rw[f,h3]at s;rw[g,h4]at u;rw[i,h5]at x;rw[j,h6]at y;exact⟨(S.block (a g1 n (by omega))).il (Zg _),(T.block (a g2 p (by omega))).il (Zg _),s.ilAt,u.ilAt,x.ilAt,y.ilAt⟩
end
end Go.Proofs.YtoaaklhpmhjhkaaGreat
