import Derived.Test.YtoaaklhpmhjhkaaGreatC04
import Derived.Test.YtoaaklhpmhjhkaaGreatC07
set_option maxRecDepth 100000
set_option maxHeartbeats 4000000
set_option linter.all false
namespace Go.Proofs.YtoaaklhpmhjhkaaGreat
open Go.RowKit
open Bm
def BR (ba:Option Addr) (h:Nat->Bool) (n:Nat) (w:World):Prop:=∀i,i<n->∃blk off,ba=some ⟨blk,off,none⟩/\w.cell? ⟨blk,off+i,none⟩=some (.bool (h i))
variable {a : Act}{ops : Array Oper}{Q : Exit → Act → World → Prop}{lf : List Int}{bs : List Nat}{rest : List Oper}{K N P b base i j k m n pb s : Nat}{vd : Nat → Int}{rk : Nat → Nat}{hs t : Nat → Nat → Bool}{nx : Nat → Nat → Int}{o : Oper}{ba ha : Option Addr}{vf vo : Value}{W W' w w' : World}
theorem BR.below {h:Nat->Bool} (H:BR ba h n w) (hW:Below w.heap.size w w'):BR ba h n w':=λi c=>by
 obtain⟨b,o,e,a⟩:=H i c;exact⟨b,o,e,by rw[hW.cell (p:=⟨b,o+i,none⟩) (World.block_lt_of_cell? w _ a)];exact a⟩
theorem BR.keep {h:Nat->Bool} (H:BR ba h n w) (hk:∀k o,ba=some ⟨k,o,none⟩->w'.heap[k]?=w.heap[k]?):BR ba h n w':=λi d=>by
 obtain⟨b,o,e,c⟩:=H i d;exact⟨b,o,e,by rw[World.cell?_of_block (w:=w) (a:=⟨b,o+i,none⟩) (hk b o e)];exact c⟩
def moreB (f h:Nat->Bool) (n:Nat):Bool:=(List.range n).any λi=>h i&&!f i
theorem q9y (f h:Nat->Bool) (n:Nat):moreB f h (n+1)=(moreB f h n || (h n&&!f n)):=by simp[moreB,List.range_succ]
def orTo (f h:Nat->Bool) (k i:Nat):Bool:=f i || (decide (i<k)&&h i)
theorem q9O (ab acap n:Nat) (f:Nat->Bool) (ba:Option Addr) (bn bc:Nat) (h:Nat->Bool) (w:World) (hn:n<=1000000) (hT:TC ab (bl f n) w) (hbn:n<=bn) (hB:BR ba h n w) (hne:∀k o,ba=some ⟨k,o,none⟩->k≠ab):
  Calls Tryz.prog 117 #[.slice (some ⟨ab,0,none⟩) n acap,.slice ba bn bc] w λe w'=>e=.returned (.bool (moreB f h n))/\TC ab (bl (λi=>f i || h i) n) w'/\(∀k,k≠ab->w'.heap[k]?=w.heap[k]?)/\w'.heap.size=w.heap.size/\(∀B0 w0,B0<=ab->Below B0 w0 w->Below B0 w0 w'):=by
 have J:Hid (∀w':World,(∀k,k≠ab->w'.heap[k]?=w.heap[k]?)->BR ba h n w'):=λw' c=>hB.keep (λk o e=>c k (hne k o e))
 have T0:TC ab (bl (orTo f h 0) n) w:=by
  rw[q0o (g:=f) (λi _=>by simp[orTo])];exact hT
 have⟨hn',hbn'⟩:(n:Int)<=1000000/\(n:Int)<=bn:=by omega
 clear hB hT;go_enter Tryz.func117,Tryz.ntmps117;go_wp2_with fail
 go_loopw [5,6] (λm x w'=>∃i:Nat,i<=n/\x=.int .i64 i/\m=.bool (moreB f h i)/\TC ab (bl (orTo f h i) n) w'/\(∀k,k≠ab->w'.heap[k]?=w.heap[k]?)/\w'.heap.size=w.heap.size/\Hid (∀B0 w0,B0<=ab->Below B0 w0 w->Below B0 w0 w')) (λ_ x _=>n-(intOf x).toNat)
 ·exact⟨0,by omega,rfl,rfl,T0,λ_ _=>rfl,rfl,λ_ _ _ h=>h⟩
 clear T0;obtain⟨i,P,rfl,rfl,T,c,l,a⟩:=hrel;have q:Hid (∀B0 w0,B0<=ab->Below B0 w0 w->Below B0 w0 (wr.setCell ⟨ab,i,none⟩ (.bool true))):=λB0 w0 u h=>(a.out B0 w0 u h).setCell (p:=⟨ab,i,none⟩) u _
 by_cases d:i<n
 ·have⟨hlt',hltb⟩:(i:Int)<n/\(i:Int)<bn:=by omega
  obtain⟨L,N,K,G⟩:=J.out wr c i d;subst K;obtain⟨B,fa⟩:=T i _ (q0x _ d);have e0:orTo f h i i=f i:=by simp[orTo]
  rw[e0]at B;have v:h i=true->f i=false->TC ab (bl (orTo f h (i+1)) n) (wr.setCell ⟨ab,i,none⟩ (.bool true)):=λH O=>by
   have:=T.set i (by rw[q0c];exact d) (.bool true);rw[q2O]at this;rw[q0o (g:=λj=>if j=i then true else orTo f h i j) (λj C=>?_)]
   ·exact this
   by_cases e:j=i
   ·subst e;simp[orTo,H]
   have:decide (j<i+1)=decide (j<i):=by simp;omega
   simp[orTo,e,this]
  have t:∀k,k≠ab->(wr.setCell ⟨ab,i,none⟩ (.bool true)).heap[k]?=w.heap[k]?:=λk s=>by
   rw[Below.heap_setCell wr ⟨ab,i,none⟩ _ k (λe=>s e)];exact c k s
  have F:(h i&&!f i)=false->TC ab (bl (orTo f h (i+1)) n) wr:=λH=>by
   rw[q0o (g:=orTo f h i) (λj C=>?_)]
   ·exact T
   by_cases e:j=i
   ·subst e;simp only[orTo];cases hh:h j<;>cases hf:f j<;>simp_all
   have:decide (j<i+1)=decide (j<i):=by simp;omega
   simp[orTo,this]
  have D:=q9y f h i;obtain⟨M,I⟩:=nam (moreB f h i);rw[<-I]at D ⊢;have A:=hyd D;have y:=hyd v;have r:=hyd F;have z:=hyd t;have E:=hyd c;have b:=hyd l;clear T v F t D I e0 c l;cases hh:h i
  ·rw[hh]at G;go_wp2_with fail;go_roundw
   ·exact⟨i+1,by omega,by go_num,by rw[A.out,hh];simp,r.out (by rw[hh];rfl),E.out,b.out,a⟩
   simp[intOf];omega
  rw[hh]at G;cases hf:f i
  ·rw[hf]at B;go_wp2_with fail;go_roundw
   ·exact⟨i+1,by omega,by go_num,by rw[A.out,hh,hf];simp,y.out hh hf,z.out,by simpa using b.out,q⟩
   simp[intOf];omega
  rw[hf]at B;go_wp2_with fail;go_roundw
  ·exact⟨i+1,by omega,by go_num,by rw[A.out,hh,hf];simp,r.out (by rw[hh,hf];rfl),E.out,b.out,a⟩
  simp[intOf];omega
 have⟨hge,hin⟩:¬(i:Int)<n/\i=n:=by omega
 subst hin;have v:TC ab (bl (λj=>f j || h j) i) wr:=by
  rw[q0o (g:=orTo f h i) (λj C=>by simp[orTo,C])];exact T
 clear T;go_wp2_with fail;go_ret;exact⟨rfl,v,c,l,a.out⟩
def fndN (L:Nat->ByteArray) (k:ByteArray) (n:Nat):Int:=match (List.range n).find? (λi=>decide (L i=k))with|some i=>(i:Int)|none=>-1
theorem q8R {L:Nat->ByteArray}{k:ByteArray} (hi:i<n) (h:L i=k) (hb:∀j,j<i->L j≠k):fndN L k n=i:=by
 have:(List.range n).find? (λi=>decide (L i=k))=some i:=by
  rw[List.find?_range_eq_some];refine⟨by simp[h],by simpa using hi,λj a=>by simpa using hb j a⟩
 simp[fndN,this]
theorem q7r {L:Nat->ByteArray}{k:ByteArray} (hb:∀j,j<n->L j≠k):fndN L k n=-1:=by
 have:(List.range n).find? (λi=>decide (L i=k))=none:=by
  rw[List.find?_eq_none];intro x a;simpa using hb x (by simpa using a)
 simp[fndN,this]
theorem y1S (b off cap n:Nat) (L:Nat->ByteArray) (k:ByteArray) (w:World) (hn:n<=1000000) (hr:SRow b off L n w):
  Calls Tryz.prog 59 #[.slice (some ⟨b,off,none⟩) n cap,.string k] w λe w'=>e=.returned (.int .i64 (fndN L k n))/\w'=w:=by
 have q:(n:Int)<=1000000:=by omega
 have m:=hyd hr;clear hr;go_enter Tryz.func59,Tryz.ntmps59;go_wp2_with fail
 go_loop [5] (λx=>∃i:Nat,i<=n/\x=.int .i64 i/\Hid (∀j,j<i->L j≠k)) (λx=>n-(intOf x).toNat)
 ·exact⟨0,by omega,rfl,λj h=>by omega⟩
 obtain⟨i,t,rfl,a⟩:=hrel;by_cases d:i<n
 ·have l:(i:Int)<n:=by omega
  have s:=m.out i d;by_cases c:L i=k
  ·have f:=hyd (q8R d c a.out);have r:((L i).toList==k.toList)=true:=by rw[c];simp
   clear a c;go_wp2_with fail;go_ret;exact⟨q0l f.out.symm,rfl⟩
  have r:((L i).toList==k.toList)=false:=by
   rw[beq_eq_false_iff_ne];intro e;apply c;have o:(L i).data.toList=k.data.toList:=by simpa[ByteArray.toList_eq]using e
   exact ByteArray.ext (Array.toList_inj.1 o)
  have g:Hid (∀j,j<i+1->L j≠k):=λj h=>by
   by_cases e:j=i
   ·subst e;exact c
   exact a.out j (by omega)
  clear a c;go_wp2_with fail
  go_round
  ·exact⟨i+1,by omega,by go_num,g⟩
  simp[intOf];omega
 have p:¬(i:Int)<n:=by omega
 have f:Hid (fndN L k n=-1):=q7r (λj h=>a.out j (by omega));clear a;go_wp2_with fail;go_ret;exact⟨q0l f.out.symm,rfl⟩
theorem q9D:∃i,Tryz.prog.info? 4=some i/\i.zero=some (.bool false)/\i.size=1/\i.bytes=1:=by
 have b:(Tryz.prog.info? 4).isSome=true:=by kernel_rfl
 obtain⟨i,a⟩:=Option.isSome_iff_exists.1 b;refine⟨i,a,?_,?_,?_⟩
 ·have:((Tryz.prog.info? 4).bind (·.zero))=some (.bool false):=by kernel_rfl
  rw[a]at this;exact this
 ·have:((Tryz.prog.info? 4).map (·.size))=some 1:=by kernel_rfl
  rw[a]at this;simpa using this
 have:((Tryz.prog.info? 4).map (·.bytes))=some 1:=by kernel_rfl
 rw[a]at this;simpa using this
theorem y1G:∃i,Tryz.prog.info? 5=some i/\i.zero=some (.int .u8 0)/\i.size=1/\i.bytes=1:=by
 have b:(Tryz.prog.info? 5).isSome=true:=by kernel_rfl
 obtain⟨i,a⟩:=Option.isSome_iff_exists.1 b;refine⟨i,a,?_,?_,?_⟩
 ·have:((Tryz.prog.info? 5).bind (·.zero))=some (.int .u8 0):=by kernel_rfl
  rw[a]at this;exact this
 ·have:((Tryz.prog.info? 5).map (·.size))=some 1:=by kernel_rfl
  rw[a]at this;simpa using this
 have:((Tryz.prog.info? 5).map (·.bytes))=some 1:=by kernel_rfl
 rw[a]at this;simpa using this
theorem q3n (v:Value) (n:Nat):madeCells #[v] n=((List.range n).map λ_=>v).toArray:=by
 refine Array.ext_getElem? (λi=>?_);by_cases h:i<n
 ·simp[madeCells,h,Nat.mod_one]
 simp[madeCells,h]
theorem q5i (w:World) (n:Nat) (hn:n<=1000000):(Instr.makeSlice 78 (.int .i64 (n:Int)) (.int .i64 (n:Int))).run Tryz.prog w=.ok (.slice (some ⟨w.heap.size,0,none⟩) n n) (w.alloc (.cells (bl (λ_=>false) n).toArray 4)):=by
 obtain⟨i,b,c,hs,a⟩:=q9D;have h:=run_make (P:=Tryz.prog) w 78 4 i (.bool false) Tryz.underlying78 b c .i64 .i64 n n (by omega) (by omega) (by rw[a];omega) (by omega);rw[hs]at h;simp only[Int.toNat_natCast,Nat.mul_one]at h;rw[show(Value.bool false).cells=#[.bool false] from rfl,q3n]at h;exact h
def u8l (g:Nat->UInt8) (n:Nat):List Value:=(List.range n).map λi=>.int .u8 ((g i).toNat:Int)
theorem q5K (g:Nat->UInt8) (n:Nat):(u8l g n).length=n:=by simp[u8l]
theorem y2h (g:Nat->UInt8) {n i:Nat} (h:i<n):(u8l g n)[i]?=some (.int .u8 ((g i).toNat:Int)):=by simp[u8l,h]
theorem q4q {f g:Nat->UInt8} (h:∀i,i<n->f i=g i):u8l f n=u8l g n:=by
 unfold u8l;exact List.map_congr_left (λi a=>by rw[h i (by simpa using a)])
theorem y2t (g:Nat->UInt8) (n i:Nat) (x:UInt8):(u8l g n).set i (.int .u8 (x.toNat:Int))=u8l (λj=>if j=i then x else g j) n:=by
 refine List.ext_getElem? (λj=>?_);rw[List.getElem?_set];by_cases a:j<n
 ·by_cases e:i=j
  ·subst e;simp[u8l,a]
  have:¬j=i:=λh=>e h.symm
  simp[u8l,a,e,this]
 have b:(u8l (λj=>if j=i then x else g j) n)[j]?=none:=List.getElem?_eq_none (by rw[q5K];omega);have c:(u8l g n)[j]?=none:=List.getElem?_eq_none (by rw[q5K];omega);rw[b,c];split
 ·rename_i e;subst e;rw[if_neg (by rw[q5K];omega)]
 rfl
theorem q9g (w:World) (n:Nat) (hn:n<=1000000):(Instr.makeSlice 99 (.int .i64 (n:Int)) (.int .i64 (n:Int))).run Tryz.prog w=.ok (.slice (some ⟨w.heap.size,0,none⟩) n n) (w.alloc (.cells (u8l (λ_=>0) n).toArray 5)):=by
 obtain⟨i,b,c,hs,a⟩:=y1G;have h:=run_make (P:=Tryz.prog) w 99 5 i (.int .u8 0) Tryz.underlying99 b c .i64 .i64 n n (by omega) (by omega) (by rw[a];omega) (by omega);rw[hs]at h;simp only[Int.toNat_natCast,Nat.mul_one]at h;rw[show(Value.int .u8 0).cells=#[.int .u8 0] from rfl,q3n]at h;exact h
def keyL (f:Nat->Bool) (n:Nat):List UInt8:=(List.range n).map λi=>if f i then 1 else 0
def keyS (f:Nat->Bool) (n:Nat):ByteArray:=⟨(keyL f n).toArray⟩
theorem y1D {f g:Nat->Bool}:keyS f n=keyS g n<->∀i,i<n->f i=g i:=by
 constructor
 ·intro h i a;have b:keyL f n=keyL g n:=by
   have:=congrArg (λx=>x.data.toList) h;simpa[keyS]using this
  have c:=congrArg (λl=>l[i]?) b;simp only[keyL,List.getElem?_map,List.getElem?_range a,Option.map_some,Option.some.injEq]at c;cases hf:f i<;>cases hg:g i<;>simp_all
 intro h;have:keyL f n=keyL g n:=List.map_congr_left (λi a=>by rw[h i (by simpa using a)]);unfold keyS;rw[this]
theorem q5G (hgd:o.guard=none) (x:Operand)
  (ho:o.op=.convert 99 9 x) (g n cap:Nat) (l:List UInt8) (hx:a.eval x=.slice (some ⟨g,0,none⟩) n cap) (hn:l.length=n) (hc:∀j (hj:j<l.length),w.cell? ⟨g,j,none⟩=some (.int .u8 (l[j].toNat:Int)))
  (h:wpList Tryz.prog ops Q rest (a.put o.dst (.string ⟨l.toArray⟩)) w):wpList Tryz.prog ops Q (o::rest) a w:=
 wpList_plain hgd λ_ b=>by
  subst hn;have c:=run_convert_bytes_back (P:=Tryz.prog) w 99 9 5 ⟨g,0,none⟩ cap l Tryz.underlying99 Tryz.underlying5 Tryz.underlying9 (λj hj=>by
   rw[Addr.add_lit,Nat.zero_add];exact hc j hj)
  unfold Oper.wp execOp;simp only[ho,Sem.run_bind,Sem.run_pure,Result.andThen_ok,hx,c];exact b _ _ h
def kyT (f:Nat->Bool) (k i:Nat):UInt8:=if decide (i<k)&&f i then 1 else 0
theorem q8f (sa:Option Addr) (n cap:Nat) (f:Nat->Bool) (w:World) (hn:n<=1000000) (hB:BR sa f n w):
  Calls Tryz.prog 56 #[.slice sa n cap] w λe w'=>e=.returned (.string (keyS f n))/\Below w.heap.size w w':=by
 have m:=q9g w n hn;have C:(n:Int)<=1000000:=by omega
 obtain⟨W,d⟩:=nam (w.alloc (.cells (u8l (λ_=>0) n).toArray 5));rw[<-d]at m;have T0:TC w.heap.size (u8l (kyT f 0) n) W:=by
  rw[d,q4q (g:=λ_=>0) (λi _=>by simp[kyT])];exact TC.boxed w _ _
 have B0:Below w.heap.size w W:=by rw[d];exact box_bel _ _
 have u:Hid (∀w',Below w.heap.size w w'->BR sa f n w'):=λw' h=>hB.below h
 clear hB d;go_enter Tryz.func56,Tryz.ntmps56;go_wp2_with fail
 go_loopw [4] (λx w'=>∃i:Nat,i<=n/\x=.int .i64 i/\TC w.heap.size (u8l (kyT f i) n) w'/\Below w.heap.size w w') (λx _=>n-(intOf x).toNat)
 ·exact⟨0,by omega,rfl,T0,B0⟩
 clear T0 B0;obtain⟨i,G,rfl,T,B⟩:=hrel;by_cases a:i<n
 ·have s:(i:Int)<n:=by omega
  obtain⟨E,F,A,o⟩:=u.out wr B i a;subst A;obtain⟨z,fa⟩:=T i _ (y2h _ a);have c:∀x,f i=x->u8l (kyT f (i+1)) n=u8l (λj=>if j=i then (if x then 1 else 0) else kyT f i j) n:=λx D=>q4q (λj b=>by
   by_cases e:j=i
   ·subst e;simp[kyT,D]
   have:decide (j<i+1)=decide (j<i):=by simp;omega
   simp[kyT,e,this])
  cases hf:f i
  ·have k:TC w.heap.size (u8l (kyT f (i+1)) n) wr:=by
    rw[c _ hf,q4q (g:=kyT f i) (λj b=>?_)]
    ·exact T
    by_cases e:j=i
    ·subst e;simp[kyT]
    simp[e]
   rw[hf]at o;clear T c z fa;go_wp2_with fail;go_roundw
   ·exact⟨i+1,by omega,by go_num,k,B⟩
   simp[intOf];omega
  have k:TC w.heap.size (u8l (kyT f (i+1)) n) (wr.setCell ⟨w.heap.size,i,none⟩ (.int .u8 1)):=by
   rw[c _ hf];have:=T.set i (by rw[q5K];exact a) (.int .u8 1);have q:=y2t (kyT f i) n i 1;rw[show((1:UInt8).toNat:Int)=1 from rfl]at q;rw[q]at this;exact this
  have t:Below w.heap.size w (wr.setCell ⟨w.heap.size,i,none⟩ (.int .u8 1)):=B.setCell (p:=⟨w.heap.size,i,none⟩) (Nat.le_refl _) _;rw[hf]at o;clear T c B;go_wp2_with fail;go_roundw
  ·exact⟨i+1,by omega,by go_num,k,t⟩
  simp[intOf];omega
 have⟨hge,hin⟩:¬(i:Int)<n/\i=n:=by omega
 subst hin;have l:(keyL f i).length=i:=by simp[keyL]
 have r:∀j (b:j<(keyL f i).length),wr.cell? ⟨w.heap.size,j,none⟩=some (.int .u8 ((keyL f i)[j].toNat:Int)):=λj b=>by
  rw[l]at b;rw[(T j _ (y2h _ b)).1];simp[keyL,kyT,b]
 have v:=hyd r;have y:=hyd l;clear T r l;go_wp2_with (first|(with_reducible show wpList _ _ _ (⟨_,Op.convert _ _ _,_,_,_,_⟩::_) _ _;refine q5G rfl _ rfl w.heap.size i i (keyL f i) rfl y.out v.out ?_));go_ret;exact⟨rfl,B⟩
structure PLN (pb N:Nat) (vd:Nat->Int) (nx:Nat->Nat->Int) (bs:List Nat) (w:World):Prop where
 v:∃va vc,w.cell? ⟨pb,0,none⟩=some (.slice va N vc)/\IL va vd N w
 n:∃na nc,w.cell? ⟨pb,1,none⟩=some (.slice na N nc)/\∀i,i<N->∃nb off ra rc,na=some ⟨nb,off,none⟩/\w.cell? ⟨nb,off+i,none⟩=some (.slice ra 256 rc)/\IL ra (nx i) 256 w
 b:∃ba bc,w.cell? ⟨pb,2,none⟩=some (.slice ba bs.length bc)/\IL ba (fun i=>(bs.getD i 0:Int)) bs.length w
theorem PLN.below (h:PLN pb N vd nx bs w) (hW:Below w.heap.size w w'):PLN pb N vd nx bs w':=by
 obtain⟨r,vc,c0,j⟩:=h.v;obtain⟨o,nc,c1,l⟩:=h.n;obtain⟨ba,a,c2,m⟩:=h.b;have f:=World.block_lt_of_cell? w _ c0;have e:∀k,w'.cell? ⟨pb,k,none⟩=w.cell? ⟨pb,k,none⟩:=λk=>hW.cell (p:=⟨pb,k,none⟩) f
 refine⟨⟨r,vc,by rw[e];exact c0,j.below hW⟩,⟨o,nc,by rw[e];exact c1,λi g=>?_⟩,⟨ba,a,by rw[e];exact c2,m.below hW⟩⟩;obtain⟨nb,off,ra,q,d,c,il⟩:=l i g;exact⟨nb,off,ra,q,d,by rw[hW.cell (p:=⟨nb,off+i,none⟩) (World.block_lt_of_cell? w _ c)];exact c,il.below hW⟩
def ofR (N:Nat) (vd:Nat->Int) (i:Nat):Int:=if i=N then -1 else vd i
def toR (N:Nat) (nx:Nat->Nat->Int) (i b:Nat):Nat:=if i=N\/nx i b<0 then N else (nx i b).toNat
theorem y1s (pb N:Nat) (vd:Nat->Int) (nx:Nat->Nat->Int) (bs:List Nat) (i:Nat) (w:World) (hN:N<=1000000) (hP:PLN pb N vd nx bs w) (hi:i<=N):
  Calls Tryz.prog 60 #[.pointer (some ⟨pb,0,none⟩),.int .i64 i] w λe w'=>e=.returned (.int .i64 (ofR N vd i))/\w'=w:=by
 obtain⟨j,vc,c0,d⟩:=hP.v;clear hP;by_cases h:i=N
 ·have g:((i:Int)==(N:Int))=true:=by simp[h]
  have a:Hid (ofR N vd i=-1):=by show _=_;simp[ofR,h]
  clear d h hi;go_enter Tryz.func60,Tryz.ntmps60;go_wp2_with fail;go_ret;exact⟨q0l a.out.symm,rfl⟩
 have g:((i:Int)==(N:Int))=false:=by simp;omega
 have f:(i:Int)<N:=by omega
 obtain⟨b,o,e,c⟩:=d i (by omega);subst e;have a:Hid (ofR N vd i=vd i):=by show _=_;simp[ofR,h]
 clear d h hi;go_enter Tryz.func60,Tryz.ntmps60;go_wp2_with fail;go_ret;exact⟨q0l a.out.symm,rfl⟩
theorem q6d (pb N:Nat) (vd:Nat->Int) (nx:Nat->Nat->Int) (bs:List Nat) (i b:Nat) (w:World) (hN:N<=1000000) (hP:PLN pb N vd nx bs w) (hi:i<=N) (hb:b<256):
  Calls Tryz.prog 30 #[.pointer (some ⟨pb,0,none⟩),.int .i64 i,.int .i64 b] w λe w'=>e=.returned (.int .i64 (toR N nx i b))/\w'=w:=by
 obtain⟨r,vc,c0,_⟩:=hP.v;obtain⟨m,nc,c1,d⟩:=hP.n;have g:(b:Int)<256:=by omega
 clear hP;by_cases h:i=N
 ·have k:((i:Int)==(N:Int))=true:=by simp[h]
  have a:Hid ((toR N nx i b:Int)=N):=by show _=_;simp[toR,h]
  clear d c1 h hi;go_enter Tryz.func30,Tryz.ntmps30;go_wp2_with fail;go_ret;exact⟨q0l a.out.symm,rfl⟩
 have k:((i:Int)==(N:Int))=false:=by simp;omega
 have j:(i:Int)<N:=by omega
 obtain⟨nb,off,ra,p,e,c,il⟩:=d i (by omega);subst e;obtain⟨o,q,e,l⟩:=il b hb;subst e;by_cases f:nx i b<0
 ·have a:Hid ((toR N nx i b:Int)=N):=by show _=_;simp[toR,f]
  clear d il h hi;go_enter Tryz.func30,Tryz.ntmps30;go_wp2_with fail;go_ret;exact⟨q0l a.out.symm,rfl⟩
 have a:Hid ((toR N nx i b:Int)=nx i b):=by show _=_;simp only[toR,h,f,or_self,if_false];omega
 clear d il h hi;go_enter Tryz.func30,Tryz.ntmps30;go_wp2_with fail;go_ret;exact⟨q0l a.out.symm,rfl⟩
def TB (ta:Option Addr) (N:Nat) (t:Nat->Nat->Bool) (w:World):Prop:=∀i,i<=N->∃tb off ra rc,ta=some ⟨tb,off,none⟩/\w.cell? ⟨tb,off+i,none⟩=some (.slice ra (N+1) rc)/\BR ra (t i) (N+1) w
def partR (N:Nat) (nx:Nat->Nat->Int) (bs:List Nat) (t:Nat->Nat->Bool) (i j m:Nat):Bool:=(bs.take m).any λb=>t (toR N nx i b) (toR N nx j b)
theorem q9t (h:bs[m]?=some b):partR N nx bs t i j (m+1)=(partR N nx bs t i j m || t (toR N nx i b) (toR N nx j b)):=by
 unfold partR;rw[List.take_add_one,h];simp
theorem q6M (h:i<N->nx i b<N) (hi:i<=N):toR N nx i b<=N:=by
 unfold toR;split
 ·omega
 have:=h (by omega);omega
theorem y0m (pb N:Nat) (vd:Nat->Int) (nx:Nat->Nat->Int) (bs:List Nat) (ta:Option Addr) (tc:Nat) (t:Nat->Nat->Bool) (i j:Nat) (w:World) (hN:N<=1000000) (hP:PLN pb N vd nx bs w) (hT:TB ta N t w) (hi:i<=N) (hj:j<=N) (hbs:∀(k b:Nat),bs[k]?=some b->b<256) (hl:bs.length<=256) (hnx:∀i b,i<N->b<256->nx i b<N):
  Calls Tryz.prog 61 #[.pointer (some ⟨pb,0,none⟩),.slice ta (N+1) tc,.int .i64 i,.int .i64 j] w λe w'=>e=.returned (.bool (partR N nx bs t i j bs.length))/\w'=w:=by
 have l:Hid (∀(i b:Nat),i<=N->b<256->Calls Tryz.prog 30 #[.pointer (some ⟨pb,0,none⟩),.int .i64 i,.int .i64 b] w λe w'=>e=.returned (.int .i64 (toR N nx i b))/\w'=w):=λi b v K=>q6d pb N vd nx bs i b w hN hP v K
 obtain⟨ba,Q,c2,G⟩:=hP.b;obtain⟨m,A⟩:=nam bs.length;rw[<-A]at c2 hl ⊢;have O:(m:Int)<=256:=by omega
 have H:Hid (∀(k b:Nat),bs[k]?=some b->∃g o,ba=some ⟨g,o,none⟩/\w.cell? ⟨g,o+k,none⟩=some (.int .i64 b)):=λk b z=>by
  have v:=(List.getElem?_eq_some_iff.1 z).1;obtain⟨g,o,e,c⟩:=G k v;refine⟨g,o,e,?_⟩;simp only[List.getD_eq_getElem?_getD,z,Option.getD_some]at c;exact c
 have J:=hyd A;have I:=hyd hT;clear hP G A hT;go_enter Tryz.func61,Tryz.ntmps61;go_wp2_with fail
 go_loop [9] (λx=>∃k:Nat,k<=m/\x=.int .i64 k/\Hid (partR N nx bs t i j k=false)) (λx=>m-(intOf x).toNat)
 ·exact⟨0,by omega,rfl,by show _=_;simp[partR]⟩
 obtain⟨k,z,rfl,n⟩:=hrel;by_cases M:k<m
 ·have F:(k:Int)<m:=by omega
  obtain⟨b,r⟩:∃b,bs[k]?=some b:=⟨bs[k]'(by have:=J.out;omega),List.getElem?_eq_getElem _⟩;have d:=hbs k b r;obtain⟨g,o,e,R⟩:=H.out k b r;subst e;have B:=l.out i b hi d;have C:=l.out j b hj d;obtain⟨X,p⟩:=nam (toR N nx i b);obtain⟨Y,q⟩:=nam (toR N nx j b);have y:X<=N:=by rw[p];exact q6M (λh=>hnx i b h d) hi
  have L:Y<=N:=by rw[q];exact q6M (λh=>hnx j b h d) hj
  have HS:Hid (partR N nx bs t i j (k+1)=t X Y):=by show _=_;rw[q9t r,n.out,p,q];simp
  rw[<-p]at B;rw[<-q]at C;have s:=hyd B;have u:=hyd C;obtain⟨tb,to,ra,U,e,S,D⟩:=I.out X y;subst e;obtain⟨T,V,e,E⟩:=D Y (by omega);subst e;have a:Hid (partR N nx bs t i j (k+1)=true->partR N nx bs t i j m=true):=λh=>by
   unfold partR at h ⊢;rw[List.any_eq_true]at h ⊢;obtain⟨x,P,h⟩:=h;refine⟨x,?_,h⟩;exact List.mem_of_mem_take (i:=k+1) (by rw[List.take_take,Nat.min_eq_left (by omega)];exact P)
  clear B C p q D r;go_wp2_with fail;refine s.out.mono ?_;rintro en w' ⟨rfl,rfl⟩;go_wp2_with fail;refine u.out.mono ?_;rintro en w' ⟨rfl,rfl⟩;cases hxy:t X Y
  ·rw[hxy]at E;have f:Hid (partR N nx bs t i j (k+1)=false):=by show _=_;rw[HS.out,hxy]
   clear n a HS;go_wp2_with fail
   go_round
   ·exact⟨k+1,by omega,by go_num,f⟩
   simp[intOf];omega
  rw[hxy]at E;have f:=hyd (a.out (by rw[HS.out,hxy]));clear n a HS;go_wp2_with fail;go_ret;exact⟨q0v f.out.symm,rfl⟩
 have⟨hge,hkm⟩:¬(k:Int)<m/\k=m:=by omega
 subst hkm;go_wp2_with fail;go_ret;exact⟨q0v n.out.symm,rfl⟩
structure TBO (base tb N:Nat) (rk:Nat->Nat) (t:Nat->Nat->Bool) (m:Nat) (w:World):Prop where
 c:∀i,i<m->w.cell? ⟨tb,i,none⟩=some (.slice (some ⟨rk i,0,none⟩) (N+1) (N+1))
 z:∀i,m<=i->i<N+1->w.cell? ⟨tb,i,none⟩=some (.slice none 0 0)
 f:∀i,i<N+1->w.frozen? ⟨tb,i,none⟩=false
 r:∀i,i<m->TC (rk i) (bl (t i) (N+1)) w
 inj:∀i j,i<m->j<m->rk i=rk j->i=j
 ne:∀i,i<m->rk i≠tb/\base<=rk i
theorem TBO.tb {tb:Nat} (h:TBO base tb N rk t (N+1) w):TB (some ⟨tb,0,none⟩) N t w:=λi b=>by
 refine⟨tb,0,_,_,rfl,by rw[Nat.zero_add];exact h.c i (by omega),λj a=>⟨rk i,0,rfl,?_⟩⟩;rw[Nat.zero_add];exact(h.r i (by omega) j _ (q0x _ a)).1
variable {tb : Nat}
theorem TBO.keep (h:TBO base tb N rk t m w) (h0:w'.heap[tb]?=w.heap[tb]?) (hk:∀i,i<m->w'.heap[rk i]?=w.heap[rk i]?):TBO base tb N rk t m w':=
 ⟨λi b=>by rw[World.cell?_of_block (w:=w) (a:=⟨tb,i,none⟩) h0];exact h.c i b,
  λi d e=>by rw[World.cell?_of_block (w:=w) (a:=⟨tb,i,none⟩) h0];exact h.z i d e,
  λi b=>by rw[World.frozen?_of_block (w:=w) (a:=⟨tb,i,none⟩) h0];exact h.f i b,
  λi b=>(h.r i b).block (hk i b),h.inj,h.ne⟩
theorem TBO.congr {t':Nat->Nat->Bool} (h:TBO base tb N rk t m w) (e:∀i j,i<m->j<N+1->t i j=t' i j):TBO base tb N rk t' m w:=
 ⟨h.c,h.z,h.f,λi a=>by rw[<-q0o (f:=t i) (λj b=>e i j a b)];exact h.r i a,h.inj,h.ne⟩
def upT (t:Nat->Nat->Bool) (i j:Nat) (x:Bool) (a b:Nat):Bool:=if a=i/\b=j then x else t a b
theorem TBO.set (h:TBO base tb N rk t m w) {i j:Nat} (hi:i<m) (hj:j<N+1) (x:Bool):TBO base tb N rk (upT t i j x) m (w.setCell ⟨rk i,j,none⟩ (.bool x)):=by
 have d:∀k,k≠rk i->(w.setCell ⟨rk i,j,none⟩ (.bool x)).heap[k]?=w.heap[k]?:=λk p=>Below.heap_setCell w ⟨rk i,j,none⟩ _ k (λe=>p e)
 have l:=d tb (λe=>(h.ne i hi).1 e.symm);refine⟨λa ha=>?_,λa n o=>?_,λa ha=>?_,λa ha=>?_,h.inj,h.ne⟩
 ·rw[World.cell?_of_block (w:=w) (a:=⟨tb,a,none⟩) l];exact h.c a ha
 ·rw[World.cell?_of_block (w:=w) (a:=⟨tb,a,none⟩) l];exact h.z a n o
 ·rw[World.frozen?_of_block (w:=w) (a:=⟨tb,a,none⟩) l];exact h.f a ha
 by_cases e:a=i
 ·subst e;have:=(h.r a ha).set j (by rw[q0c];exact hj) (.bool x);rw[q2O]at this;rw[q0o (g:=λb=>if b=j then x else t a b) (λb d=>?_)]
  ·exact this
  simp[upT]
 rw[q0o (g:=t a) (λb d=>by simp[upT,e])];exact(h.r a ha).block (d _ (λe'=>e (h.inj a i ha hi e')))
theorem TBO.blk (h:TBO base tb N rk t m w):∀i,i<m->rk i<w.heap.size:=λi a=>World.block_lt_of_cell? w _ ((h.r i a) 0 _ (q0x _ (by omega))).1
theorem TBO.row (h:TBO base tb N rk t m w) (hm:m<N+1) (ht:tb<w.heap.size) (hb:base<=w.heap.size) (ty:TypeId):
  TBO base tb N (λa=>if a=m then w.heap.size else rk a) (λa b=>if a=m then false else t a b) (m+1) ((w.alloc (.cells (bl (λ_=>false) (N+1)).toArray ty)).setCell ⟨tb,m,none⟩ (.slice (some ⟨w.heap.size,0,none⟩) (N+1) (N+1))):=by
 obtain⟨W,o⟩:=nam (w.alloc (.cells (bl (λ_=>false) (N+1)).toArray ty));have B:Below w.heap.size w W:=by rw[o];exact box_bel _ _
 have T:TC w.heap.size (bl (λ_=>false) (N+1)) W:=by rw[o];exact TC.boxed w _ _
 have d:=h.keep (B.block tb ht) (λi u=>B.block (rk i) (h.blk i u));have j:w.heap.size≠tb:=by omega
 rw[<-o];have l:∀k,k≠tb->(W.setCell ⟨tb,m,none⟩ (.slice (some ⟨w.heap.size,0,none⟩) (N+1) (N+1))).heap[k]?=W.heap[k]?:=λk l=>Below.heap_setCell W ⟨tb,m,none⟩ _ k (λe=>l e)
 have p:=d.z m (Nat.le_refl _) hm;have g:∀a,a≠m->(W.setCell ⟨tb,m,none⟩ (.slice (some ⟨w.heap.size,0,none⟩) (N+1) (N+1))).cell? ⟨tb,a,none⟩=W.cell? ⟨tb,a,none⟩:=λa ha=>World.cell?_setCell_other _ ⟨tb,m,none⟩ ⟨tb,a,none⟩ _ (λe=>ha (by cases e;rfl))
 refine⟨λa ha=>?_,λa v q=>?_,λa ha=>?_,λa ha=>?_,λa b ha s e=>?_,λa ha=>?_⟩
 ·by_cases e:a=m
  ·subst e;simp only[if_true];exact World.cell?_setCell_same _ _ _ p
  simp only[e,if_false];rw[g a e];exact d.c a (by omega)
 ·rw[g a (by omega)];exact d.z a (by omega) q
 ·rw[World.frozen?_setCell];exact d.f a ha
 ·by_cases e:a=m
  ·subst e;simp only[if_true];exact T.block (l _ j)
  simp only[e,if_false];exact(d.r a (by omega)).block (l _ (d.ne a (by omega)).1)
 ·by_cases n:a=m
  ·by_cases e2:b=m
   ·omega
   simp only[n,e2,if_true,if_false]at e;have:=h.blk b (by omega);omega
  by_cases e2:b=m
  ·simp only[n,e2,if_true,if_false]at e;have:=h.blk a (by omega);omega
  simp only[n,e2,if_false]at e;exact h.inj a b (by omega) (by omega) e
 by_cases e:a=m
 ·simp only[e,if_true];exact⟨j,hb⟩
 simp only[e,if_false];exact h.ne a (by omega)
def rowsTo (K:Nat) (rw:Nat->Nat->Int) (n:Nat):List Int:=(List.range n).map λt=>rw (t/K) (t%K)
theorem q7L (K:Nat) (rw:Nat->Nat->Int) (n:Nat):rowsTo K rw (n+1)=rowsTo K rw n++[rw (n/K) (n%K)]:=by simp[rowsTo,List.range_succ]
theorem q5j (K:Nat) (rw:Nat->Nat->Int) (n:Nat):(rowsTo K rw n).length=n:=by simp[rowsTo]
theorem q5y (hk:k<K):(s*K+k)/K=s/\(s*K+k)%K=k:=by
 have a:0<K:=by omega
 rw[Nat.mul_comm,Nat.mul_add_div a,Nat.div_eq_of_lt hk,Nat.add_zero,Nat.mul_add_mod,Nat.mod_eq_of_lt hk];exact⟨rfl,rfl⟩
theorem q9k {rw:Nat->Nat->Int}{S:Nat} (hs:s<S) (hk:k<K):(rowsTo K rw (S*K)).getD (s*K+k) 0=rw s k:=by
 have h:s*K+k<S*K:=by
  have:(s+1)*K<=S*K:=Nat.mul_le_mul_right _ hs;rw[Nat.add_mul]at this;omega
 obtain⟨a,e2⟩:=q5y (s:=s) hk;simp[rowsTo,List.getD_eq_getElem?_getD,h,a,e2]
def rwOf (A:Aut) (E:Nat->Nat->Bool) (s k:Nat):Int:=gAt A (idxI E) ((reps E A.N).getD s 0) k
theorem q9l (gb:Nat) (A:Aut) (ta:Option Addr) (tc:Nat) (sv:Value) (E:Nat->Nat->Bool) (b1 b2:Nat) (vo vf:Value) (w:World) (hA:Aut.Small A) (hr:∀s k,s<A.N->k<A.K->-1<=A.to s k/\A.to s k<A.N) (hG:Gr gb A ta tc sv w) (ho:OwnL b1 vo (ofL E A.N) w) (hf:OwnL b2 vf (firstL E A.N) w):
  Calls Tryz.prog 132 #[.pointer (some ⟨gb,0,none⟩),.agg #[vo,vf]] w λe w'=>∃v,e=.returned v/\OwnL w.heap.size v (rowsTo A.K (rwOf A E) (cnt E A.N*A.K)) w'/\Below w.heap.size w w':=by
 have hn:=hA.n;have U:=hA.k;have S:=cnt_le E A.N;obtain⟨t,M,L,p⟩:=ho.il;obtain⟨fa,fc,J,d⟩:=hf.il;rw[q1h]at L p;rw[q0u]at J d;subst L;subst J;have h:IL t (idxI E) A.N w:=p.congr (λi hi=>by simp[ofL,List.getD_eq_getElem?_getD,hi]);clear p ho hf;obtain⟨c,R⟩:∃c,c=cnt E A.N:=⟨_,rfl⟩;rw[<-R]at d S ⊢;have Hc:Hid (c=cnt E A.N):=R;clear R;obtain⟨W,O⟩:∃W,W=w.alloc (.cells #[.slice t A.N M,.slice fa c fc] 150):=⟨_,rfl⟩;have u:Below w.heap.size w W:=by rw[O];exact box_bel _ _
 have F:TC w.heap.size [.slice t A.N M,.slice fa c fc] W:=by rw[O];exact TC.boxed _ _ _
 have HC:Hid (∀(s k:Nat) (w':World),s<A.N->k<A.K->Below W.heap.size W w'->Calls Tryz.prog 177 #[.pointer (some ⟨gb,0,none⟩),.slice t A.N M,.int .i64 s,.int .i64 k] w' λe w''=>e=.returned (.int .i64 (gAt A (idxI E) s k))/\Below w'.heap.size w' w''):=λs k w' hs hk f=>q4N gb A ta tc sv t M (idxI E) s k w' hA hr ((hG.below u).below f) ((h.below u).below f) hs hk
 have HK:Hid (∀w',Below W.heap.size W w'->w'.cell? ⟨gb,0,none⟩=some (.int .i64 A.K)):=λw' f=>((hG.below u).below f).c0
 have HT:Hid (∀w',Below W.heap.size W w'->w'.cell? ⟨w.heap.size,0,none⟩=some (.slice t A.N M)):=λw' f=>(F.below f 0 _ rfl).1
 have HF:Hid (∀w',Below W.heap.size W w'->IL fa (λi=>(firstL E A.N).getD i 0) c w'):=λw' f=>(d.below u).below f
 have P:=hyd u;clear hG hA hr h d F u;go_enter Tryz.func132,Tryz.ntmps132;go_wp2_with fail;rw[<-O];clear O
 go_loopw [5,13] (λv x w'=>∃s:Nat,s<=c/\x=.int .i64 s/\OwnL W.heap.size v (rowsTo A.K (rwOf A E) (s*A.K)) w'/\Below W.heap.size W w') (λ_ x _=>c-(intOf x).toNat)
 ·exact⟨0,by omega,rfl,by rw[Nat.zero_mul];exact OwnL.nil _ _,Below.refl _ _⟩
 obtain⟨s,hs,rfl,b,a⟩:=hrel;by_cases V:s<c
 ·have ab:(s:Int)<c:=by omega
  obtain⟨r,hr⟩:∃r,(reps E A.N)[s]?=some r:=⟨(reps E A.N)[s]'(by have:=Hc.out;unfold cnt at this;omega),List.getElem?_eq_getElem _⟩;have Y:=(reps_mem hr).1;have H:(firstL E A.N).getD s 0=(r:Int):=by simp[firstL,List.getD_eq_getElem?_getD,hr]
  have Q:Hid (∀k,rwOf A E s k=gAt A (idxI E) r k):=λk=>by unfold rwOf;rw[show(reps E A.N).getD s 0=r by simp[List.getD_eq_getElem?_getD,hr]]
  obtain⟨ac,ae,T,c2⟩:=HF.out wr a s V;simp only[H]at c2;subst T;have af:s*A.K<=200*256:=y0s (by omega) U;clear hr H;go_wp2_with fail
  go_loopw [5,8] (λv x w'=>∃k:Nat,k<=A.K/\x=.int .i64 k/\OwnL W.heap.size v (rowsTo A.K (rwOf A E) (s*A.K+k)) w'/\Below W.heap.size W w') (λ_ x _=>A.K-(intOf x).toNat)
  ·exact⟨0,by omega,rfl,b,a⟩
  clear b a c2;obtain⟨k,hk,rfl,b,a⟩:=hrel;have c0:=HK.out wr a;by_cases o:k<A.K
  ·have aa:(k:Int)<(A.K:Int):=by omega
   have c1:=HT.out wr a;go_wp2_with fail;refine(HC.out r k _ Y o a).mono ?_;rintro e w1 ⟨rfl,l⟩;have j:=a.trans (l.mono a.size);have B:=b.below l;clear b a c0 c1 l;obtain⟨y,hy⟩:=nam (gAt A (idxI E) r k);rw[<-hy];have Hy:Hid (y=rwOf A E s k):=by show _=_;rw[hy,Q.out]
   clear hy;have Z:=box_bel w1 (.cells #[.int .i64 y] 3);have C:=B.below Z;have z:=j.trans (Z.mono j.size);have I:=C.blk;have X:(w1.alloc (.cells #[.int .i64 y] 3)).cell? ⟨w1.heap.size,0,none⟩=some (.int .i64 y):=by rw[World.cell?_alloc_new];rfl
   have G:=z.size;clear Z B j;go_wp2_with (first|(at_builtin;refine wpList_append_int (by rfl) _ _ (by rfl) W.heap.size u5 (rowsTo A.K (rwOf A E) (s*A.K+k)) (by rfl) C (by rw[q5j];omega) w1.heap.size y (by rfl) X G _ rfl ?_;intro g cap w5 D m ag ah));have e1:rowsTo A.K (rwOf A E) (s*A.K+k)++[y]=rowsTo A.K (rwOf A E) (s*A.K+(k+1)):=by
    rw[<-Nat.add_assoc,q7L,(q5y o).1,(q5y o).2,Hy.out]
   rw[e1]at D;go_roundw
   ·exact⟨k+1,by omega,by go_num,D,z.grown m G (λq hq=>(I q hq).1)⟩
   simp[intOf];omega
  have⟨hge,hkK⟩:¬(k:Int)<(A.K:Int)/\k=A.K:=by omega
  go_wp2_with fail;go_roundw
  ·exact⟨s+1,by omega,by go_num,by rw[Nat.add_mul,Nat.one_mul];rw[hkK]at b;exact b,a⟩
  simp[intOf];omega
 have⟨hge,hsc⟩:¬(s:Int)<c/\s=c:=by omega
 go_wp2_with fail;go_ret;refine⟨u5,rfl,?_,P.out.trans (a.mono P.out.size)⟩;rw[hsc]at b;exact b.mono P.out.size
def Cl (rw:Nat->Nat->Int) (S:Nat) (a b:Nat):Bool:=(List.range S).all λs=>rw s a==rw s b
theorem q2C (rw:Nat->Nat->Int) (S a b:Nat):Cl rw S a b=true<->∀s,s<S->rw s a=rw s b:=by simp[Cl]
theorem q9b (rw:Nat->Nat->Int) (S n:Nat):Eqv (Cl rw S) n:=
 ⟨λa _=>(q2C rw S a a).2 (λ_ _=>rfl),λa b _ _ h=>(q2C rw S b a).2 (λs hs=>((q2C rw S a b).1 h s hs).symm),λa b c _ _ _ h k=>(q2C rw S a c).2 (λs hs=>((q2C rw S a b).1 h s hs).trans ((q2C rw S b c).1 k s hs))⟩
theorem q5a (ra:Option Addr) (rc K S:Nat) (rw:Nat->Nat->Int) (a b:Nat) (w:World) (hK:K<=256) (hS:S<=200) (ha:a<K) (hb:b<K) (hR:IL ra (λi=>(rowsTo K rw (S*K)).getD i 0) (S*K) w):
  Calls Tryz.prog 178 #[.slice ra (S*K) rc,.int .i64 K,.int .i64 a,.int .i64 b] w λe w'=>e=.returned (.bool (Cl rw S a b))/\Below w.heap.size w w':=by
 obtain⟨R,l⟩:=nam (Cl rw S a b);rw[<-l];have F:Hid (R=true<->∀s,s<S->rw s a=rw s b):=by rw[l];exact q2C rw S a b
 clear l;have C:=y0s hS hK;obtain⟨M,B⟩:=nam (S*K);have E:Hid (∀(w':World),Below w.heap.size w w'->∀s k,s<S->k<K->∃b off,ra=some ⟨b,off,none⟩/\w'.cell? ⟨b,off+(s*K+k),none⟩=some (.int .i64 (rw s k))):=λw' P s k hs T=>by
  have U:s*K+k<S*K:=by
   have:(s+1)*K<=S*K:=Nat.mul_le_mul_right _ hs;rw[Nat.add_mul]at this;omega
  obtain⟨b,off,e,G⟩:=(hR.below P) (s*K+k) U;simp only[q9k hs T]at G;exact⟨b,off,e,G⟩
 have m:=hyd B;rw[<-B]at C ⊢;clear B hR;go_enter Tryz.func178,Tryz.ntmps178;go_wp2_with fail
 go_loopw [9] (λx w'=>∃s p:Nat,s<=S/\x=.int .i64 p/\Hid (p=s*K)/\p<=M/\Below w.heap.size w w'/\Hid (∀j,j<s->rw j a=rw j b)) (λx _=>M-(intOf x).toNat)
 ·exact⟨0,0,by omega,rfl,by show _=_;simp,by omega,Below.refl _ _,λj H=>by omega⟩
 obtain⟨s,p,hs,rfl,d,V,n,v⟩:=hrel;by_cases c:s<S
 ·have D:s*K+K<=S*K:=by
   have:(s+1)*K<=S*K:=Nat.mul_le_mul_right _ c;rw[Nat.add_mul]at this;omega
  have I:(p:Int)<M:=by have:=d.out;have:=m.out;omega
  obtain⟨J,o⟩:=nam (p+a);obtain⟨L,q⟩:=nam (p+b);obtain⟨u,r⟩:=nam (p+K);have Z:(p:Int)+(a:Int)=(J:Int):=by omega
  have⟨i2,i3⟩:(p:Int)+(b:Int)=(L:Int)/\(p:Int)+(K:Int)=(u:Int):=by omega
  have l1:(J:Int)<M:=by have:=d.out;have:=m.out;omega
  have l2:(L:Int)<M:=by have:=d.out;have:=m.out;omega
  have W:u<=M:=by have:=d.out;have:=m.out;omega
  have l4:p<u:=by omega
  obtain⟨X,o1,t,c1⟩:=E.out wr n s a c ha;obtain⟨Y,o2,g,c2⟩:=E.out wr n s b c hb;have z:Hid (u=(s+1)*K):=by show _=_;rw[Nat.add_mul,r,d.out];omega
  rw[<-d.out,<-o]at c1;rw[<-d.out,<-q]at c2;rw[t]at g;cases g;subst t;clear o q r D;by_cases f:rw s a=rw s b
  ·have A:(rw s a==rw s b)=true:=by simpa using f
   have e2:(rw s a != rw s b)=false:=by simp[f]
   have y:Hid (∀j,j<s+1->rw j a=rw j b):=λj H=>by
    by_cases O:j=s
    ·subst O;exact f
    exact v.out j (by omega)
   clear f v;go_wp2_with fail
   go_quiet (fail)
   go_wp2_with fail;go_roundw
   ·exact⟨s+1,u,by omega,by go_num,z,W,n.trans (q1w _ _ _),y⟩
   simp[intOf];omega
  have A:(rw s a==rw s b)=false:=by simpa using f
  have e2:(rw s a != rw s b)=true:=by simp[f]
  have h:Hid (R=false):=by
   show _=_;cases hR:R
   ·rfl
   exact absurd (F.out.1 hR s c) f
  clear f v;go_wp2_with fail
  go_quiet (fail)
  go_wp2_with fail;go_ret;exact⟨q0v h.out.symm,n.trans (q1w _ _ _)⟩
 have Q:¬(p:Int)<M:=by
  have A:=d.out;have e2:=m.out;have N:s=S:=by omega
  rw[N,<-e2]at A;omega
 have h:=hyd (F.out.2 (λj H=>v.out j (by omega)));go_wp2_with fail;go_ret;exact⟨q0v h.out.symm,n⟩
structure CN (w:World) (vo vf:Value) (lo lf:List Int) (W:World):Prop where
 o:OwnL w.heap.size vo lo W
 f:OwnL w.heap.size vf lf W
 ne:∀k,vo.ownBlock=some k->vf.ownBlock≠some k
 b:Below w.heap.size w W
theorem CN.below {lo:List Int} (h:CN w vo vf lo lf W) (hW:Below W.heap.size W W'):CN w vo vf lo lf W':=
 ⟨h.o.below hW,h.f.below hW,h.ne,h.b.trans (hW.mono h.b.size)⟩
theorem CN.putF {w:World}{vo vf:Value}{lo lf lf':List Int}{W W1 w5:World}{n g cap:Nat}{ob:Obj} (h:CN w vo vf lo lf W) (hW1:W1=W.alloc ob)
  (h5:OwnL w.heap.size (.slice (some ⟨g,0,none⟩) n cap) lf' w5) (hg:W1.grownBy w5 vf.ownBlock) (hgb:vf.ownBlock=some g\/g=W1.heap.size):CN w vo (.slice (some ⟨g,0,none⟩) n cap) lo lf' w5:=by
 have p:Below W.heap.size W W1:=by rw[hW1];exact box_bel _ _
 have m:W1.heap.size=W.heap.size+1:=by rw[hW1];simp
 have i:=h.below p;have d:=h.f.blk;refine⟨i.o.grown hg (λk a e=>h.ne k a e),h5,?_,i.b.grown hg i.b.size (λq l=>(d q l).1)⟩;intro k a e;have e2:g=k:=Option.some.inj e;have j:=h.o.blk k a;rcases hgb with c|c
 ·rw[e2]at c;exact h.ne k a c
 omega
theorem CN.putO {w:World}{vo vf:Value}{lo lf lo':List Int}{W W1 w5:World}{n g cap:Nat}{ob:Obj} (h:CN w vo vf lo lf W) (hW1:W1=W.alloc ob)
  (h5:OwnL w.heap.size (.slice (some ⟨g,0,none⟩) n cap) lo' w5) (hg:W1.grownBy w5 vo.ownBlock) (hgb:vo.ownBlock=some g\/g=W1.heap.size):CN w (.slice (some ⟨g,0,none⟩) n cap) vf lo' lf w5:=by
 have p:Below W.heap.size W W1:=by rw[hW1];exact box_bel _ _
 have m:W1.heap.size=W.heap.size+1:=by rw[hW1];simp
 have i:=h.below p;have c:=h.o.blk;refine⟨h5,i.f.grown hg (λk d e=>h.ne k e d),?_,i.b.grown hg i.b.size (λq l=>(c q l).1)⟩;intro k d e;have e2:g=k:=Option.some.inj d;have j:=h.f.blk k e;rcases hgb with a|a
 ·rw[e2]at a;exact h.ne k a e
 omega
def ClassPost (E:Nat->Nat->Bool) (n:Nat) (w:World) (e:Ending) (w':World):Prop:=
 ∃vo vf,e=.returned (.tuple #[vo,vf])/\OwnL w.heap.size vo (ofL E n) w'/\OwnL w.heap.size vf (firstL E n) w'/\Below w.heap.size w w'
theorem q6E (ra:Option Addr) (rc K S:Nat) (rw:Nat->Nat->Int) (w:World) (hK:K<=256) (hS:S<=200) (hR:IL ra (λi=>(rowsTo K rw (S*K)).getD i 0) (S*K) w):
  Calls Tryz.prog 133 #[.slice ra (S*K) rc,.int .i64 K] w (ClassPost (Cl rw S) K w):=by
 have HC:Hid (∀(a b:Nat) (w':World),a<K->b<K->Below w.heap.size w w'->Calls Tryz.prog 178 #[.slice ra (S*K) rc,.int .i64 K,.int .i64 a,.int .i64 b] w' λe w''=>e=.returned (.bool (Cl rw S a b))/\Below w'.heap.size w' w''):=λa b w' ha hb h'=>q5a ra rc K S rw a b w' hK hS ha hb (hR.below h')
 have HE:=hyd (q9b rw S K);obtain⟨M,hM⟩:=nam (S*K);rw[<-hM]at HC ⊢;clear hR hM;generalize Cl rw S=E at *;go_enter Tryz.func133,Tryz.ntmps133;go_wp2_with fail
 go_loopw [6,7,8] (λvo vf x w'=>∃a:Nat,a<=K/\x=.int .i64 a/\CN w vo vf (ofL E a) (firstL E a) w') (λ_ _ x _=>K-(intOf x).toNat)
 ·exact⟨0,by omega,rfl,OwnL.nil _ _,OwnL.nil _ _,λk hk=>(by cases hk),Below.refl _ _⟩
 obtain⟨a,ha,rfl,S1⟩:=hrel;by_cases H:a<K
 ·have aq:(a:Int)<K:=by omega
  obtain⟨fa,X,an,_⟩:=S1.f.il;obtain⟨L,vc,ao,_⟩:=S1.o.il;subst an;subst ao;rw[q0u]at S1;rw[q1h]at S1;have d:=rep_new HE.out H;have af:=cnt_le E a;obtain⟨id,F⟩:=nam (idx E a);rw[<-F]at d;have m:=hyd F;clear F;rw[q0u,q1h];obtain⟨c,hc⟩:=nam (cnt E a);have Hc:=hyd hc;rw[<-hc]at d af S1 ⊢;clear hc;have l:=hyd d.1;have U:=d.2;clear d;go_wp2_with fail
  go_loopw [9] (λx w'=>∃j:Nat,j<=id/\x=.int .i64 j/\CN w (.slice L a vc) (.slice fa c X) (ofL E a) (firstL E a) w') (λx _=>c-(intOf x).toNat)
  ·exact⟨0,by omega,rfl,S1⟩
  clear S1;obtain⟨j,hj,rfl,S1⟩:=hrel;by_cases ai:j<c
  ·have ap:(j:Int)<c:=by omega
   obtain⟨r,Y⟩:∃r,(reps E a)[j]?=some r:=⟨(reps E a)[j]'(by have:=Hc.out;unfold cnt at this;omega),List.getElem?_eq_getElem _⟩;have am:=reps_mem Y;have G:=rep_like HE.out H Y;rw[<-m.out]at G;obtain⟨ar,P,V,J⟩:=S1.f.il;have W:=(Value.slice.inj V).1;rw[<-W]at J;obtain⟨au,av,ag,c2⟩:=J j (by rw[q0u,<-Hc.out];exact ai);subst ag;have T:(firstL E a).getD j 0=(r:Int):=by simp[firstL,List.getD_eq_getElem?_getD,Y]
   simp only[T]at c2;have s:=hyd (HC.out r a wr (by omega) H S1.b);have O:=hyd G;clear G Y am V J T W;go_wp2_with fail;refine s.out.mono ?_;rintro e w2 ⟨rfl,Q⟩;have S2:=S1.below Q;clear S1 c2 s Q;cases hE:E r a
   ·have ax:j≠id:=λe=>by have:=O.out.2 e;rw[hE]at this;cases this
    go_wp2_with fail;go_roundw
    ·exact⟨j+1,by omega,by go_num,S2⟩
    simp[intOf];omega
   have aj:=O.out.1 hE;subst aj;have u:least E a≠a:=λe=>by have:=l.out.2 e;omega
   have q1:((j:Int)==(c:Int))=false:=by simp;omega
   have p:=box_bel w2 (.cells #[.int .i64 (j:Int)] 3);have z:=S2.o.below p;have I:(w2.alloc (.cells #[.int .i64 (j:Int)] 3)).cell? ⟨w2.heap.size,0,none⟩=some (.int .i64 (j:Int)):=by rw[World.cell?_alloc_new];rfl
   have B:=Nat.le_trans S2.b.size p.size;have y:=hyd S2;have n:=hyd u;clear S2 p u;go_wp2_with (first|(at_builtin;refine wpList_append_int (by rfl) _ _ (by rfl) w.heap.size (.slice L a vc) (ofL E a) (by rfl) z (by rw[q1h];omega) w2.heap.size (j:Int) (by rfl) I B _ rfl ?_;intro g cap w5 A h D ak));have S3:=y.out.putO rfl A h D;have e1:ofL E a++[(j:Int)]=ofL E (a+1):=by rw[q4c];unfold idxI;rw[<-m.out]
   have e2:firstL E (a+1)=firstL E a:=by rw[q1t,if_neg n.out,List.append_nil]
   rw[e1,<-e2]at S3;go_roundw
   ·exact⟨a+1,by omega,by go_num,S3⟩
   simp[intOf];omega
  have⟨hjc2,hic⟩:c=j/\id=c:=by omega
  have t:=l.out.1 hic;have Z:=hyd hic;clear hic hj U l;subst hjc2;have ah:¬(c:Int)<c:=by omega
  have q1:((c:Int)==(c:Int))=true:=by simp
  have p:=box_bel wr (.cells #[.int .i64 (a:Int)] 3);have z:=S1.f.below p;have I:(wr.alloc (.cells #[.int .i64 (a:Int)] 3)).cell? ⟨wr.heap.size,0,none⟩=some (.int .i64 (a:Int)):=by rw[World.cell?_alloc_new];rfl
  have B:=Nat.le_trans S1.b.size p.size;have y:=hyd S1;have n:=hyd t;have C:=q0u E a;rw[<-Hc.out]at C;have N:=hyd C;have HX:Hid (∀g cap w5,OwnL w.heap.size (.slice (some ⟨g,0,none⟩) (c+1) cap) (firstL E a++[(a:Int)]) w5->(wr.alloc (.cells #[.int .i64 (a:Int)] 3)).grownBy w5 (Value.slice fa c X).ownBlock->((Value.slice fa c X).ownBlock=some g\/g=(wr.alloc (.cells #[.int .i64 (a:Int)] 3)).heap.size) ->
    CN w (.slice L a vc) (.slice (some ⟨g,0,none⟩) (c+1) cap) (ofL E a) (firstL E a++[(a:Int)]) w5):=λg cap w5 h1 h2 h3=>y.out.putF rfl h1 h2 h3
  have aa:Hid (∀(v:Value) (w5:World),CN w (.slice L a vc) v (ofL E a) (firstL E a++[(a:Int)]) w5 ->
    OwnL w.heap.size (.slice L a vc) (ofL E a) (w5.alloc (.cells #[.int .i64 (c:Int)] 3))/\(w5.alloc (.cells #[.int .i64 (c:Int)] 3)).cell? ⟨w5.heap.size,0,none⟩=some (.int .i64 (c:Int))/\w.heap.size<=(w5.alloc (.cells #[.int .i64 (c:Int)] 3)).heap.size):=λv w5 hF=>by
   have p:=box_bel w5 (.cells #[.int .i64 (c:Int)] 3);exact⟨hF.o.below p,by rw[World.cell?_alloc_new];rfl,Nat.le_trans hF.b.size p.size⟩
  clear S1 p t C;go_wp2_with (first|(at_builtin;refine wpList_append_int (by rfl) _ _ (by rfl) w.heap.size (.slice fa c X) (firstL E a) (by rfl) z (by rw[N.out];omega) wr.heap.size (a:Int) (by rfl) I B _ rfl ?_;rw[N.out];intro g cap w5 A h D ak;have S5:=HX.out g cap w5 A h D;obtain⟨ab,al,ae⟩:=aa.out _ w5 S5)|(at_builtin;refine wpList_append_int (by rfl) _ _ (by rfl) w.heap.size (.slice L a vc) (ofL E a) (by rfl) ab (by rw[q1h];omega) w5.heap.size (c:Int) (by rfl) al ae _ rfl ?_;intro g2 P w7 ac q R aw));have S7:=S5.putO rfl ac q R;have e1:ofL E a++[(c:Int)]=ofL E (a+1):=by rw[q4c];unfold idxI;rw[<-m.out,Z.out]
  have e2:firstL E a++[(a:Int)]=firstL E (a+1):=by rw[q1t,if_pos n.out]
  rw[e1,e2]at S7;go_roundw
  ·exact⟨a+1,by omega,by go_num,S7⟩
  simp[intOf];omega
 have⟨ah,haN⟩:¬(a:Int)<K/\a=K:=by omega
 subst haN;go_wp2_with fail;go_ret2;exact⟨u6,u7,rfl,S1.o,S1.f,S1.b⟩
def HS (ha:Option Addr) (hs:Nat->Nat->Bool) (P:Nat) (w:World):Prop:=∀p b,p<P->b<256->∃blk off,ha=some ⟨blk,off,none⟩/\w.cell? ⟨blk,off+p*256+b,none⟩=some (.bool (hs p b))
theorem HS.below (h:HS ha hs P w) (hW:Below w.heap.size w w'):HS ha hs P w':=λp b d c=>by
 obtain⟨blk,off,e,a⟩:=h p b d c;refine⟨blk,off,e,?_⟩;rw[hW.cell (p:=⟨blk,off+p*256+b,none⟩) (World.block_lt_of_cell? w _ a)];exact a
def Kq (hs:Nat->Nat->Bool) (P:Nat) (a b:Nat):Bool:=(List.range P).all λp=>hs p a==hs p b
theorem q2B (hs:Nat->Nat->Bool) (P a b:Nat):Kq hs P a b=true<->∀p,p<P->hs p a=hs p b:=by simp[Kq]
theorem q3D (hs:Nat->Nat->Bool) (P n:Nat):Eqv (Kq hs P) n:=
 ⟨λa _=>(q2B hs P a a).2 (λ_ _=>rfl),λa b _ _ h=>(q2B hs P b a).2 (λs d=>((q2B hs P a b).1 h s d).symm),λa b c _ _ _ h k=>(q2B hs P a c).2 (λs d=>((q2B hs P a b).1 h s d).trans ((q2B hs P b c).1 k s d))⟩
theorem q5M (nb:Nat) (ha:Option Addr) (hc P:Nat) (hs:Nat->Nat->Bool) (a b:Nat) (w:World) (hP:P<=96) (hc0:w.cell? ⟨nb,0,none⟩=some (.slice ha P hc)) (hH:HS ha hs P w) (h1:a<256) (h2:b<256):
  Calls Tryz.prog 127 #[.pointer (some ⟨nb,0,none⟩),.int .u8 a,.int .u8 b] w λe w'=>e=.returned (.bool (!Kq hs P a b))/\Below w.heap.size w w':=by
 obtain⟨R,g⟩:=nam (!Kq hs P a b);rw[<-g];have q:Hid (R=false<->∀p,p<P->hs p a=hs p b):=by
  show _<->_;rw[g];have:=q2B hs P a b;simpa using this
 clear g;have u:Hid (∀w',Below w.heap.size w w'->w'.cell? ⟨nb,0,none⟩=some (.slice ha P hc)):=λw' n=>by
  rw[n.cell (p:=⟨nb,0,none⟩) (World.block_lt_of_cell? w _ hc0)];exact hc0
 have o:Hid (∀w',Below w.heap.size w w'->HS ha hs P w'):=λw' n=>hH.below n
 have⟨h1',h2'⟩:(a:Int)<256/\(b:Int)<256:=by omega
 clear hH hc0;go_enter Tryz.func127,Tryz.ntmps127;go_wp2_with fail
 go_loopw [7] (λx w'=>∃p:Nat,p<=P/\x=.int .i64 p/\Below w.heap.size w w'/\Hid (∀j,j<p->hs j a=hs j b)) (λx _=>P-(intOf x).toNat)
 ·exact⟨0,by omega,rfl,Below.refl _ _,λj s=>by omega⟩
 obtain⟨p,F,rfl,f,l⟩:=hrel;have c0:=u.out wr f;by_cases d:p<P
 ·have t:(p:Int)<P:=by omega
  obtain⟨D,G,r,A⟩:=o.out wr f p a d h1;obtain⟨E,H,e2,B⟩:=o.out wr f p b d h2;rw[r]at e2;cases e2;subst r;obtain⟨x,i⟩:=nam (hs p a);obtain⟨y,k⟩:=nam (hs p b);rw[<-i]at A;rw[<-k]at B;by_cases h:x=y
  ·have m:Hid (∀j,j<p+1->hs j a=hs j b):=λj s=>by
    by_cases v:j=p
    ·subst v;rw[<-i,<-k];exact h
    exact l.out j (by omega)
   subst h;clear l i k;go_wp2_with fail
   go_quiet (fail)
   have C:(x==x)=true:=by simp
   go_wp2_with fail;go_roundw
   ·exact⟨p+1,by omega,by go_num,f.trans (q1w _ _ _),m⟩
   simp[intOf];omega
  have c:Hid (R=true):=by
   show _=_;cases g:R
   ·exact absurd (by rw[i,k];exact q.out.1 g p d) h
   rfl
  have C:(x==y)=false:=by simpa using h
  clear l i k h;go_wp2_with fail
  go_quiet (fail)
  go_wp2_with fail;go_ret;exact⟨q0v c.out.symm,f.trans (q1w _ _ _)⟩
 have z:¬(p:Int)<P:=by omega
 have c:=hyd (q.out.2 (λj s=>l.out j (by omega)));go_wp2_with fail;go_ret;exact⟨q0v c.out.symm,f⟩
end Go.Proofs.YtoaaklhpmhjhkaaGreat
