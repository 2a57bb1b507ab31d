import Derived.Test.YtoaaklhpmhjhkaaGreatC04
import Derived.Test.YtoaaklhpmhjhkaaGreatC07
set_option maxRecDepth 100000
set_option maxHeartbeats 4000000
set_option linter.all false
namespace Go.Proofs.YtoaaklhpmhjhkaaGreat
open Go.RowKit
open Bm
def BR (ba:Option Addr) (h:Nat->Bool) (n:Nat) (w:World):Prop:=∀i,i<n->∃blk off,ba=some ⟨blk,off,none⟩/\w.cell? ⟨blk,off+i,none⟩=some (.bool (h i))
variable {a : Act}{ops : Array Oper}{Q : Exit → Act → World → Prop}{lf : List Int}{bs : List Nat}{rest : List Oper}{K N b base i j k m n pb s : Nat}{vd : Nat → Int}{rk : Nat → Nat}{t : Nat → Nat → Bool}{nx : Nat → Nat → Int}{o : Oper}{ba : Option Addr}{vf vo : Value}{W W' w w' : World}
theorem BR.below {h:Nat->Bool} (H:BR ba h n w) (hW:Below w.heap.size w w'):BR ba h n w':=fun i hi=>by
 obtain⟨b,o,e,hc⟩:=H i hi;exact⟨b,o,e,by rw[hW.cell (p:=⟨b,o+i,none⟩) (World.block_lt_of_cell? w _ hc)];exact hc⟩
theorem BR.keep {h:Nat->Bool} (H:BR ba h n w) (hk:∀k o,ba=some ⟨k,o,none⟩->w'.heap[k]?=w.heap[k]?):BR ba h n w':=fun i hi=>by
 obtain⟨b,o,e,hc⟩:=H i hi;exact⟨b,o,e,by rw[World.cell?_of_block (w:=w) (a:=⟨b,o+i,none⟩) (hk b o e)];exact hc⟩
def moreB (f h:Nat->Bool) (n:Nat):Bool:=(List.range n).any fun i=>h i&&!f i
theorem q9y (f h:Nat->Bool) (n:Nat):moreB f h (n+1)=(moreB f h n || (h n&&!f n)):=by simp[moreB,List.range_succ]
def orTo (f h:Nat->Bool) (k i:Nat):Bool:=f i || (decide (i<k)&&h i)
theorem q9O (ab acap n:Nat) (f:Nat->Bool) (ba:Option Addr) (bn bc:Nat) (h:Nat->Bool) (w:World) (hn:n<=1000000) (hT:TC ab (bl f n) w) (hbn:n<=bn) (hB:BR ba h n w) (hne:∀k o,ba=some ⟨k,o,none⟩->k≠ab):
  Calls Tryz.prog 117 #[.slice (some ⟨ab,0,none⟩) n acap,.slice ba bn bc] w fun e w'=>e=.returned (.bool (moreB f h n))/\TC ab (bl (fun i=>f i || h i) n) w'/\(∀k,k≠ab->w'.heap[k]?=w.heap[k]?)/\w'.heap.size=w.heap.size/\(∀B0 w0,B0<=ab->Below B0 w0 w->Below B0 w0 w'):=by
 have HB:Hid (∀w':World,(∀k,k≠ab->w'.heap[k]?=w.heap[k]?)->BR ba h n w'):=fun w' hk=>hB.keep (fun k o e=>hk k (hne k o e))
 have T0:TC ab (bl (orTo f h 0) n) w:=by
  rw[q0o (g:=f) (fun i _=>by simp[orTo])];exact hT
 have hn':(n:Int)<=1000000:=by omega
 have hbn':(n:Int)<=bn:=by omega
 clear hB hT;go_enter Tryz.func117,Tryz.ntmps117;go_wp2_with fail
 go_loopw [5,6] (fun m x w'=>∃i:Nat,i<=n/\x=.int .i64 i/\m=.bool (moreB f h i)/\TC ab (bl (orTo f h i) n) w'/\(∀k,k≠ab->w'.heap[k]?=w.heap[k]?)/\w'.heap.size=w.heap.size/\Hid (∀B0 w0,B0<=ab->Below B0 w0 w->Below B0 w0 w')) (fun _ x _=>n-(intOf x).toNat)
 case atStart=>exact⟨0,by omega,rfl,rfl,T0,fun _ _=>rfl,rfl,fun _ _ _ h=>h⟩
 case round=>
  clear T0;obtain⟨i,hi,rfl,rfl,T,hk,hsz,HBe⟩:=hrel;have HBe2:Hid (∀B0 w0,B0<=ab->Below B0 w0 w->Below B0 w0 (wr.setCell ⟨ab,i,none⟩ (.bool true))):=fun B0 w0 hle h=>(HBe.out B0 w0 hle h).setCell (p:=⟨ab,i,none⟩) hle _
  by_cases hlt:i<n
  ·have hlt':(i:Int)<n:=by omega
   have hltb:(i:Int)<bn:=by omega
   obtain⟨bb,bo,eb,cb⟩:=HB.out wr hk i hlt;subst eb;obtain⟨ca,fa⟩:=T i _ (q0x _ hlt);have e0:orTo f h i i=f i:=by simp[orTo]
   rw[e0]at ca;have T2:h i=true->f i=false->TC ab (bl (orTo f h (i+1)) n) (wr.setCell ⟨ab,i,none⟩ (.bool true)):=fun h1 h2=>by
    have:=T.set i (by rw[q0c];exact hlt) (.bool true);rw[q2O]at this;rw[q0o (g:=fun j=>if j=i then true else orTo f h i j) (fun j hj=>?_)]
    ·exact this
    ·by_cases e:j=i
     ·subst e;simp[orTo,h1]
     ·have:decide (j<i+1)=decide (j<i):=by simp;omega
      simp[orTo,e,this]
   have hk2:∀k,k≠ab->(wr.setCell ⟨ab,i,none⟩ (.bool true)).heap[k]?=w.heap[k]?:=fun k hk'=>by
    rw[Below.heap_setCell wr ⟨ab,i,none⟩ _ k (fun e=>hk' e)];exact hk k hk'
   have T3:(h i&&!f i)=false->TC ab (bl (orTo f h (i+1)) n) wr:=fun h1=>by
    rw[q0o (g:=orTo f h i) (fun j hj=>?_)]
    ·exact T
    ·by_cases e:j=i
     ·subst e;simp only[orTo];cases hh:h j<;>cases hf:f j<;>simp_all
     ·have:decide (j<i+1)=decide (j<i):=by simp;omega
      simp[orTo,this]
   have hm:=q9y f h i;obtain⟨M,hM⟩:=nam (moreB f h i);rw[<-hM]at hm ⊢;have Hm:=hyd hm;have HT2:=hyd T2;have HT3:=hyd T3;have Hk2:=hyd hk2;have Hk:=hyd hk;have Hsz:=hyd hsz;clear T T2 T3 hk2 hm hM e0 hk hsz;cases hh:h i
   ·rw[hh]at cb;go_wp2_with fail;go_roundw
    case rel=>exact⟨i+1,by omega,by go_num,by rw[Hm.out,hh];simp,HT3.out (by rw[hh];rfl),Hk.out,Hsz.out,HBe⟩
    case measure=>simp[intOf];omega
   ·rw[hh]at cb;cases hf:f i
    ·rw[hf]at ca;go_wp2_with fail;go_roundw
     case rel=>exact⟨i+1,by omega,by go_num,by rw[Hm.out,hh,hf];simp,HT2.out hh hf,Hk2.out,by simpa using Hsz.out,HBe2⟩
     case measure=>simp[intOf];omega
    ·rw[hf]at ca;go_wp2_with fail;go_roundw
     case rel=>exact⟨i+1,by omega,by go_num,by rw[Hm.out,hh,hf];simp,HT3.out (by rw[hh,hf];rfl),Hk.out,Hsz.out,HBe⟩
     case measure=>simp[intOf];omega
  ·have hge:¬(i:Int)<n:=by omega
   have hin:i=n:=by omega
   subst hin;have T2:TC ab (bl (fun j=>f j || h j) i) wr:=by
    rw[q0o (g:=orTo f h i) (fun j hj=>by simp[orTo,hj])];exact T
   clear T;go_wp2_with fail;go_ret;exact⟨rfl,T2,hk,hsz,HBe.out⟩
def fndN (L:Nat->ByteArray) (k:ByteArray) (n:Nat):Int:=match (List.range n).find? (fun i=>decide (L i=k))with|some i=>(i:Int)|none=>-1
theorem q8R {L:Nat->ByteArray}{k:ByteArray} (hi:i<n) (h:L i=k) (hb:∀j,j<i->L j≠k):fndN L k n=i:=by
 have:(List.range n).find? (fun i=>decide (L i=k))=some i:=by
  rw[List.find?_range_eq_some];refine⟨by simp[h],by simpa using hi,fun j hj=>by simpa using hb j hj⟩
 simp[fndN,this]
theorem q7r {L:Nat->ByteArray}{k:ByteArray} (hb:∀j,j<n->L j≠k):fndN L k n=-1:=by
 have:(List.range n).find? (fun i=>decide (L i=k))=none:=by
  rw[List.find?_eq_none];intro x hx;simpa using hb x (by simpa using hx)
 simp[fndN,this]
theorem y1S (b off cap n:Nat) (L:Nat->ByteArray) (k:ByteArray) (w:World) (hn:n<=1000000) (hr:SRow b off L n w):
  Calls Tryz.prog 59 #[.slice (some ⟨b,off,none⟩) n cap,.string k] w fun e w'=>e=.returned (.int .i64 (fndN L k n))/\w'=w:=by
 have hn':(n:Int)<=1000000:=by omega
 have Hr:=hyd hr;clear hr;go_enter Tryz.func59,Tryz.ntmps59;go_wp2_with fail
 go_loop [5] (fun x=>∃i:Nat,i<=n/\x=.int .i64 i/\Hid (∀j,j<i->L j≠k)) (fun x=>n-(intOf x).toNat)
 case atStart=>exact⟨0,by omega,rfl,fun j hj=>by omega⟩
 case round=>
  obtain⟨i,hi,rfl,HJ⟩:=hrel;by_cases hlt:i<n
  ·have hlt':(i:Int)<n:=by omega
   have ci:=Hr.out i hlt;by_cases he:L i=k
   ·have HF:=hyd (q8R hlt he HJ.out);have hq:((L i).toList==k.toList)=true:=by rw[he];simp
    clear HJ he;go_wp2_with fail;go_ret;exact⟨q0l HF.out.symm,rfl⟩
   ·have hq:((L i).toList==k.toList)=false:=by
     rw[beq_eq_false_iff_ne];intro e;apply he;have h1:(L i).data.toList=k.data.toList:=by simpa[ByteArray.toList_eq]using e
     exact ByteArray.ext (Array.toList_inj.1 h1)
    have HJ2:Hid (∀j,j<i+1->L j≠k):=fun j hj=>by
     by_cases e:j=i
     ·subst e;exact he
     ·exact HJ.out j (by omega)
    clear HJ he;go_wp2_with fail
    go_round
    case rel=>exact⟨i+1,by omega,by go_num,HJ2⟩
    case measure=>simp[intOf];omega
  ·have hge:¬(i:Int)<n:=by omega
   have HF:Hid (fndN L k n=-1):=q7r (fun j hj=>HJ.out j (by omega));clear HJ;go_wp2_with fail;go_ret;exact⟨q0l HF.out.symm,rfl⟩
theorem q9D:∃i,Tryz.prog.info? 4=some i/\i.zero=some (.bool false)/\i.size=1/\i.bytes=1:=by
 have h1:(Tryz.prog.info? 4).isSome=true:=by kernel_rfl
 obtain⟨i,hi⟩:=Option.isSome_iff_exists.1 h1;refine⟨i,hi,?_,?_,?_⟩
 ·have:((Tryz.prog.info? 4).bind (·.zero))=some (.bool false):=by kernel_rfl
  rw[hi]at this;exact this
 ·have:((Tryz.prog.info? 4).map (·.size))=some 1:=by kernel_rfl
  rw[hi]at this;simpa using this
 ·have:((Tryz.prog.info? 4).map (·.bytes))=some 1:=by kernel_rfl
  rw[hi]at this;simpa using this
theorem y1G:∃i,Tryz.prog.info? 5=some i/\i.zero=some (.int .u8 0)/\i.size=1/\i.bytes=1:=by
 have h1:(Tryz.prog.info? 5).isSome=true:=by kernel_rfl
 obtain⟨i,hi⟩:=Option.isSome_iff_exists.1 h1;refine⟨i,hi,?_,?_,?_⟩
 ·have:((Tryz.prog.info? 5).bind (·.zero))=some (.int .u8 0):=by kernel_rfl
  rw[hi]at this;exact this
 ·have:((Tryz.prog.info? 5).map (·.size))=some 1:=by kernel_rfl
  rw[hi]at this;simpa using this
 ·have:((Tryz.prog.info? 5).map (·.bytes))=some 1:=by kernel_rfl
  rw[hi]at this;simpa using this
theorem q3n (v:Value) (n:Nat):madeCells #[v] n=((List.range n).map fun _=>v).toArray:=by
 refine Array.ext_getElem? (fun i=>?_);by_cases h:i<n
 ·simp[madeCells,h,Nat.mod_one]
 ·simp[madeCells,h]
theorem q5i (w:World) (n:Nat) (hn:n<=1000000):(Instr.makeSlice 78 (.int .i64 (n:Int)) (.int .i64 (n:Int))).run Tryz.prog w=.ok (.slice (some ⟨w.heap.size,0,none⟩) n n) (w.alloc (.cells (bl (fun _=>false) n).toArray 4)):=by
 obtain⟨i,hi,hz,hs,hb⟩:=q9D;have h:=run_make (P:=Tryz.prog) w 78 4 i (.bool false) Tryz.underlying78 hi hz .i64 .i64 n n (by omega) (by omega) (by rw[hb];omega) (by omega);rw[hs]at h;simp only[Int.toNat_natCast,Nat.mul_one]at h;rw[show(Value.bool false).cells=#[.bool false] from rfl,q3n]at h;exact h
def u8l (g:Nat->UInt8) (n:Nat):List Value:=(List.range n).map fun i=>.int .u8 ((g i).toNat:Int)
theorem q5K (g:Nat->UInt8) (n:Nat):(u8l g n).length=n:=by simp[u8l]
theorem y2h (g:Nat->UInt8) {n i:Nat} (h:i<n):(u8l g n)[i]?=some (.int .u8 ((g i).toNat:Int)):=by simp[u8l,h]
theorem q4q {f g:Nat->UInt8} (h:∀i,i<n->f i=g i):u8l f n=u8l g n:=by
 unfold u8l;exact List.map_congr_left (fun i hi=>by rw[h i (by simpa using hi)])
theorem y2t (g:Nat->UInt8) (n i:Nat) (x:UInt8):(u8l g n).set i (.int .u8 (x.toNat:Int))=u8l (fun j=>if j=i then x else g j) n:=by
 refine List.ext_getElem? (fun j=>?_);rw[List.getElem?_set];by_cases hj:j<n
 ·by_cases e:i=j
  ·subst e;simp[u8l,hj]
  ·have:¬j=i:=fun h=>e h.symm
   simp[u8l,hj,e,this]
 ·have h1:(u8l (fun j=>if j=i then x else g j) n)[j]?=none:=List.getElem?_eq_none (by rw[q5K];omega);have h2:(u8l g n)[j]?=none:=List.getElem?_eq_none (by rw[q5K];omega);rw[h1,h2];split
  ·rename_i e;subst e;rw[if_neg (by rw[q5K];omega)]
  ·rfl
theorem q9g (w:World) (n:Nat) (hn:n<=1000000):(Instr.makeSlice 99 (.int .i64 (n:Int)) (.int .i64 (n:Int))).run Tryz.prog w=.ok (.slice (some ⟨w.heap.size,0,none⟩) n n) (w.alloc (.cells (u8l (fun _=>0) n).toArray 5)):=by
 obtain⟨i,hi,hz,hs,hb⟩:=y1G;have h:=run_make (P:=Tryz.prog) w 99 5 i (.int .u8 0) Tryz.underlying99 hi hz .i64 .i64 n n (by omega) (by omega) (by rw[hb];omega) (by omega);rw[hs]at h;simp only[Int.toNat_natCast,Nat.mul_one]at h;rw[show(Value.int .u8 0).cells=#[.int .u8 0] from rfl,q3n]at h;exact h
def keyL (f:Nat->Bool) (n:Nat):List UInt8:=(List.range n).map fun i=>if f i then 1 else 0
def keyS (f:Nat->Bool) (n:Nat):ByteArray:=⟨(keyL f n).toArray⟩
theorem y1D {f g:Nat->Bool}:keyS f n=keyS g n<->∀i,i<n->f i=g i:=by
 constructor
 ·intro h i hi;have h1:keyL f n=keyL g n:=by
   have:=congrArg (fun x=>x.data.toList) h;simpa[keyS]using this
  have h2:=congrArg (fun l=>l[i]?) h1;simp only[keyL,List.getElem?_map,List.getElem?_range hi,Option.map_some,Option.some.injEq]at h2;cases hf:f i<;>cases hg:g i<;>simp_all
 ·intro h;have:keyL f n=keyL g n:=List.map_congr_left (fun i hi=>by rw[h i (by simpa using hi)]);unfold keyS;rw[this]
theorem q5G (hgd:o.guard=none) (x:Operand)
  (ho:o.op=.convert 99 9 x) (g n cap:Nat) (l:List UInt8) (hx:a.eval x=.slice (some ⟨g,0,none⟩) n cap) (hn:l.length=n) (hc:∀j (hj:j<l.length),w.cell? ⟨g,j,none⟩=some (.int .u8 (l[j].toNat:Int)))
  (h:wpList Tryz.prog ops Q rest (a.put o.dst (.string ⟨l.toArray⟩)) w):wpList Tryz.prog ops Q (o::rest) a w:=
 wpList_plain hgd fun _ hK=>by
  subst hn;have hr:=run_convert_bytes_back (P:=Tryz.prog) w 99 9 5 ⟨g,0,none⟩ cap l Tryz.underlying99 Tryz.underlying5 Tryz.underlying9 (fun j hj=>by
   rw[Addr.add_lit,Nat.zero_add];exact hc j hj)
  unfold Oper.wp execOp;simp only[ho,Sem.run_bind,Sem.run_pure,Result.andThen_ok,hx,hr];exact hK _ _ h
def kyT (f:Nat->Bool) (k i:Nat):UInt8:=if decide (i<k)&&f i then 1 else 0
theorem q8f (sa:Option Addr) (n cap:Nat) (f:Nat->Bool) (w:World) (hn:n<=1000000) (hB:BR sa f n w):
  Calls Tryz.prog 56 #[.slice sa n cap] w fun e w'=>e=.returned (.string (keyS f n))/\Below w.heap.size w w':=by
 have hmk:=q9g w n hn;have hn':(n:Int)<=1000000:=by omega
 obtain⟨W,hW⟩:=nam (w.alloc (.cells (u8l (fun _=>0) n).toArray 5));rw[<-hW]at hmk;have T0:TC w.heap.size (u8l (kyT f 0) n) W:=by
  rw[hW,q4q (g:=fun _=>0) (fun i _=>by simp[kyT])];exact TC.boxed w _ _
 have B0:Below w.heap.size w W:=by rw[hW];exact box_bel _ _
 have HB:Hid (∀w',Below w.heap.size w w'->BR sa f n w'):=fun w' h=>hB.below h
 clear hB hW;go_enter Tryz.func56,Tryz.ntmps56;go_wp2_with fail
 go_loopw [4] (fun x w'=>∃i:Nat,i<=n/\x=.int .i64 i/\TC w.heap.size (u8l (kyT f i) n) w'/\Below w.heap.size w w') (fun x _=>n-(intOf x).toNat)
 case atStart=>exact⟨0,by omega,rfl,T0,B0⟩
 case round=>
  clear T0 B0;obtain⟨i,hi,rfl,T,B⟩:=hrel;by_cases hlt:i<n
  ·have hlt':(i:Int)<n:=by omega
   obtain⟨bb,bo,eb,cb⟩:=HB.out wr B i hlt;subst eb;obtain⟨ca,fa⟩:=T i _ (y2h _ hlt);have e1:∀x,f i=x->u8l (kyT f (i+1)) n=u8l (fun j=>if j=i then (if x then 1 else 0) else kyT f i j) n:=fun x hx=>q4q (fun j hj=>by
    by_cases e:j=i
    ·subst e;simp[kyT,hx]
    ·have:decide (j<i+1)=decide (j<i):=by simp;omega
     simp[kyT,e,this])
   cases hf:f i
   ·have T2:TC w.heap.size (u8l (kyT f (i+1)) n) wr:=by
     rw[e1 _ hf,q4q (g:=kyT f i) (fun j hj=>?_)]
     ·exact T
     ·by_cases e:j=i
      ·subst e;simp[kyT]
      ·simp[e]
    rw[hf]at cb;clear T e1 ca fa;go_wp2_with fail;go_roundw
    case rel=>exact⟨i+1,by omega,by go_num,T2,B⟩
    case measure=>simp[intOf];omega
   ·have T2:TC w.heap.size (u8l (kyT f (i+1)) n) (wr.setCell ⟨w.heap.size,i,none⟩ (.int .u8 1)):=by
     rw[e1 _ hf];have:=T.set i (by rw[q5K];exact hlt) (.int .u8 1);have h2:=y2t (kyT f i) n i 1;rw[show((1:UInt8).toNat:Int)=1 from rfl]at h2;rw[h2]at this;exact this
    have B2:Below w.heap.size w (wr.setCell ⟨w.heap.size,i,none⟩ (.int .u8 1)):=B.setCell (p:=⟨w.heap.size,i,none⟩) (Nat.le_refl _) _;rw[hf]at cb;clear T e1 B;go_wp2_with fail;go_roundw
    case rel=>exact⟨i+1,by omega,by go_num,T2,B2⟩
    case measure=>simp[intOf];omega
  ·have hge:¬(i:Int)<n:=by omega
   have hin:i=n:=by omega
   subst hin;have hl:(keyL f i).length=i:=by simp[keyL]
   have hc:∀j (hj:j<(keyL f i).length),wr.cell? ⟨w.heap.size,j,none⟩=some (.int .u8 ((keyL f i)[j].toNat:Int)):=fun j hj=>by
    rw[hl]at hj;rw[(T j _ (y2h _ hj)).1];simp[keyL,kyT,hj]
   have Hc:=hyd hc;have Hl:=hyd hl;clear T hc hl;go_wp2_with (first|(with_reducible show wpList _ _ _ (⟨_,Op.convert _ _ _,_,_,_,_⟩::_) _ _;refine q5G rfl _ rfl w.heap.size i i (keyL f i) rfl Hl.out Hc.out ?_));go_ret;exact⟨rfl,B⟩
structure PLN (pb N:Nat) (vd:Nat->Int) (nx:Nat->Nat->Int) (bs:List Nat) (w:World):Prop where
 v:∃va vc,w.cell? ⟨pb,0,none⟩=some (.slice va N vc)/\IL va vd N w
 n:∃na nc,w.cell? ⟨pb,1,none⟩=some (.slice na N nc)/\∀i,i<N->∃nb off ra rc,na=some ⟨nb,off,none⟩/\w.cell? ⟨nb,off+i,none⟩=some (.slice ra 256 rc)/\IL ra (nx i) 256 w
 b:∃ba bc,w.cell? ⟨pb,2,none⟩=some (.slice ba bs.length bc)/\IL ba (fun i=>(bs.getD i 0:Int)) bs.length w
theorem PLN.below (h:PLN pb N vd nx bs w) (hW:Below w.heap.size w w'):PLN pb N vd nx bs w':=by
 obtain⟨va,vc,c0,i0⟩:=h.v;obtain⟨na,nc,c1,i1⟩:=h.n;obtain⟨ba,bc,c2,i2⟩:=h.b;have hb:=World.block_lt_of_cell? w _ c0;have e:∀k,w'.cell? ⟨pb,k,none⟩=w.cell? ⟨pb,k,none⟩:=fun k=>hW.cell (p:=⟨pb,k,none⟩) hb
 refine⟨⟨va,vc,by rw[e];exact c0,i0.below hW⟩,⟨na,nc,by rw[e];exact c1,fun i hi=>?_⟩,⟨ba,bc,by rw[e];exact c2,i2.below hW⟩⟩;obtain⟨nb,off,ra,rc,e1,c,il⟩:=i1 i hi;exact⟨nb,off,ra,rc,e1,by rw[hW.cell (p:=⟨nb,off+i,none⟩) (World.block_lt_of_cell? w _ c)];exact c,il.below hW⟩
def ofR (N:Nat) (vd:Nat->Int) (i:Nat):Int:=if i=N then -1 else vd i
def toR (N:Nat) (nx:Nat->Nat->Int) (i b:Nat):Nat:=if i=N\/nx i b<0 then N else (nx i b).toNat
theorem y1s (pb N:Nat) (vd:Nat->Int) (nx:Nat->Nat->Int) (bs:List Nat) (i:Nat) (w:World) (hN:N<=1000000) (hP:PLN pb N vd nx bs w) (hi:i<=N):
  Calls Tryz.prog 60 #[.pointer (some ⟨pb,0,none⟩),.int .i64 i] w fun e w'=>e=.returned (.int .i64 (ofR N vd i))/\w'=w:=by
 obtain⟨va,vc,c0,i0⟩:=hP.v;clear hP;by_cases h:i=N
 ·have hq:((i:Int)==(N:Int))=true:=by simp[h]
  have HR:Hid (ofR N vd i=-1):=by show _=_;simp[ofR,h]
  clear i0 h hi;go_enter Tryz.func60,Tryz.ntmps60;go_wp2_with fail;go_ret;exact⟨q0l HR.out.symm,rfl⟩
 ·have hq:((i:Int)==(N:Int))=false:=by simp;omega
  have hlt:(i:Int)<N:=by omega
  obtain⟨b,o,e,c⟩:=i0 i (by omega);subst e;have HR:Hid (ofR N vd i=vd i):=by show _=_;simp[ofR,h]
  clear i0 h hi;go_enter Tryz.func60,Tryz.ntmps60;go_wp2_with fail;go_ret;exact⟨q0l HR.out.symm,rfl⟩
theorem q6d (pb N:Nat) (vd:Nat->Int) (nx:Nat->Nat->Int) (bs:List Nat) (i b:Nat) (w:World) (hN:N<=1000000) (hP:PLN pb N vd nx bs w) (hi:i<=N) (hb:b<256):
  Calls Tryz.prog 30 #[.pointer (some ⟨pb,0,none⟩),.int .i64 i,.int .i64 b] w fun e w'=>e=.returned (.int .i64 (toR N nx i b))/\w'=w:=by
 obtain⟨va,vc,c0,_⟩:=hP.v;obtain⟨na,nc,c1,i1⟩:=hP.n;have hb':(b:Int)<256:=by omega
 clear hP;by_cases h:i=N
 ·have hq:((i:Int)==(N:Int))=true:=by simp[h]
  have HR:Hid ((toR N nx i b:Int)=N):=by show _=_;simp[toR,h]
  clear i1 c1 h hi;go_enter Tryz.func30,Tryz.ntmps30;go_wp2_with fail;go_ret;exact⟨q0l HR.out.symm,rfl⟩
 ·have hq:((i:Int)==(N:Int))=false:=by simp;omega
  have hlt:(i:Int)<N:=by omega
  obtain⟨nb,off,ra,rc,e,c,il⟩:=i1 i (by omega);subst e;obtain⟨rb,ro,e,cr⟩:=il b hb;subst e;by_cases hx:nx i b<0
  ·have HR:Hid ((toR N nx i b:Int)=N):=by show _=_;simp[toR,hx]
   clear i1 il h hi;go_enter Tryz.func30,Tryz.ntmps30;go_wp2_with fail;go_ret;exact⟨q0l HR.out.symm,rfl⟩
  ·have HR:Hid ((toR N nx i b:Int)=nx i b):=by show _=_;simp only[toR,h,hx,or_self,if_false];omega
   clear i1 il h hi;go_enter Tryz.func30,Tryz.ntmps30;go_wp2_with fail;go_ret;exact⟨q0l HR.out.symm,rfl⟩
def TB (ta:Option Addr) (N:Nat) (t:Nat->Nat->Bool) (w:World):Prop:=∀i,i<=N->∃tb off ra rc,ta=some ⟨tb,off,none⟩/\w.cell? ⟨tb,off+i,none⟩=some (.slice ra (N+1) rc)/\BR ra (t i) (N+1) w
def partR (N:Nat) (nx:Nat->Nat->Int) (bs:List Nat) (t:Nat->Nat->Bool) (i j m:Nat):Bool:=(bs.take m).any fun b=>t (toR N nx i b) (toR N nx j b)
theorem q9t (h:bs[m]?=some b):partR N nx bs t i j (m+1)=(partR N nx bs t i j m || t (toR N nx i b) (toR N nx j b)):=by
 unfold partR;rw[List.take_add_one,h];simp
theorem q6M (h:i<N->nx i b<N) (hi:i<=N):toR N nx i b<=N:=by
 unfold toR;split
 ·omega
 ·have:=h (by omega);omega
theorem y0m (pb N:Nat) (vd:Nat->Int) (nx:Nat->Nat->Int) (bs:List Nat) (ta:Option Addr) (tc:Nat) (t:Nat->Nat->Bool) (i j:Nat) (w:World) (hN:N<=1000000) (hP:PLN pb N vd nx bs w) (hT:TB ta N t w) (hi:i<=N) (hj:j<=N) (hbs:∀(k b:Nat),bs[k]?=some b->b<256) (hl:bs.length<=256) (hnx:∀i b,i<N->b<256->nx i b<N):
  Calls Tryz.prog 61 #[.pointer (some ⟨pb,0,none⟩),.slice ta (N+1) tc,.int .i64 i,.int .i64 j] w fun e w'=>e=.returned (.bool (partR N nx bs t i j bs.length))/\w'=w:=by
 have HTo:Hid (∀(i b:Nat),i<=N->b<256->Calls Tryz.prog 30 #[.pointer (some ⟨pb,0,none⟩),.int .i64 i,.int .i64 b] w fun e w'=>e=.returned (.int .i64 (toR N nx i b))/\w'=w):=fun i b h1 h2=>q6d pb N vd nx bs i b w hN hP h1 h2
 obtain⟨ba,bc,c2,i2⟩:=hP.b;obtain⟨m,hm⟩:=nam bs.length;rw[<-hm]at c2 hl ⊢;have hm':(m:Int)<=256:=by omega
 have HI:Hid (∀(k b:Nat),bs[k]?=some b->∃g o,ba=some ⟨g,o,none⟩/\w.cell? ⟨g,o+k,none⟩=some (.int .i64 b)):=fun k b hk=>by
  have h1:=(List.getElem?_eq_some_iff.1 hk).1;obtain⟨g,o,e,c⟩:=i2 k h1;refine⟨g,o,e,?_⟩;simp only[List.getD_eq_getElem?_getD,hk,Option.getD_some]at c;exact c
 have Hm:=hyd hm;have HT:=hyd hT;clear hP i2 hm hT;go_enter Tryz.func61,Tryz.ntmps61;go_wp2_with fail
 go_loop [9] (fun x=>∃k:Nat,k<=m/\x=.int .i64 k/\Hid (partR N nx bs t i j k=false)) (fun x=>m-(intOf x).toNat)
 case atStart=>exact⟨0,by omega,rfl,by show _=_;simp[partR]⟩
 case round=>
  obtain⟨k,hk,rfl,HF⟩:=hrel;by_cases hlt:k<m
  ·have hlt':(k:Int)<m:=by omega
   obtain⟨b,hb⟩:∃b,bs[k]?=some b:=⟨bs[k]'(by have:=Hm.out;omega),List.getElem?_eq_getElem _⟩;have hb2:=hbs k b hb;obtain⟨g,o,e,cb⟩:=HI.out k b hb;subst e;have x1:=HTo.out i b hi hb2;have x2:=HTo.out j b hj hb2;obtain⟨X,hX⟩:=nam (toR N nx i b);obtain⟨Y,hY⟩:=nam (toR N nx j b);have hXN:X<=N:=by rw[hX];exact q6M (fun h=>hnx i b h hb2) hi
   have hYN:Y<=N:=by rw[hY];exact q6M (fun h=>hnx j b h hb2) hj
   have HS:Hid (partR N nx bs t i j (k+1)=t X Y):=by show _=_;rw[q9t hb,HF.out,hX,hY];simp
   rw[<-hX]at x1;rw[<-hY]at x2;have HX1:=hyd x1;have HX2:=hyd x2;obtain⟨tb,to,ra,rc,e,ct,br⟩:=HT.out X hXN;subst e;obtain⟨rb,ro,e,cr⟩:=br Y (by omega);subst e;have HMono:Hid (partR N nx bs t i j (k+1)=true->partR N nx bs t i j m=true):=fun h=>by
    unfold partR at h ⊢;rw[List.any_eq_true]at h ⊢;obtain⟨x,hx,h⟩:=h;refine⟨x,?_,h⟩;exact List.mem_of_mem_take (i:=k+1) (by rw[List.take_take,Nat.min_eq_left (by omega)];exact hx)
   clear x1 x2 hX hY br hb;go_wp2_with fail;refine HX1.out.mono ?_;rintro en w' ⟨rfl,rfl⟩;go_wp2_with fail;refine HX2.out.mono ?_;rintro en w' ⟨rfl,rfl⟩;cases hxy:t X Y
   ·rw[hxy]at cr;have HF2:Hid (partR N nx bs t i j (k+1)=false):=by show _=_;rw[HS.out,hxy]
    clear HF HMono HS;go_wp2_with fail
    go_round
    case rel=>exact⟨k+1,by omega,by go_num,HF2⟩
    case measure=>simp[intOf];omega
   ·rw[hxy]at cr;have HF2:=hyd (HMono.out (by rw[HS.out,hxy]));clear HF HMono HS;go_wp2_with fail;go_ret;exact⟨q0v HF2.out.symm,rfl⟩
  ·have hge:¬(k:Int)<m:=by omega
   have hkm:k=m:=by omega
   subst hkm;go_wp2_with fail;go_ret;exact⟨q0v HF.out.symm,rfl⟩
structure TBO (base tb N:Nat) (rk:Nat->Nat) (t:Nat->Nat->Bool) (m:Nat) (w:World):Prop where
 c:∀i,i<m->w.cell? ⟨tb,i,none⟩=some (.slice (some ⟨rk i,0,none⟩) (N+1) (N+1))
 z:∀i,m<=i->i<N+1->w.cell? ⟨tb,i,none⟩=some (.slice none 0 0)
 f:∀i,i<N+1->w.frozen? ⟨tb,i,none⟩=false
 r:∀i,i<m->TC (rk i) (bl (t i) (N+1)) w
 inj:∀i j,i<m->j<m->rk i=rk j->i=j
 ne:∀i,i<m->rk i≠tb/\base<=rk i
theorem TBO.tb {tb:Nat} (h:TBO base tb N rk t (N+1) w):TB (some ⟨tb,0,none⟩) N t w:=fun i hi=>by
 refine⟨tb,0,_,_,rfl,by rw[Nat.zero_add];exact h.c i (by omega),fun j hj=>⟨rk i,0,rfl,?_⟩⟩;rw[Nat.zero_add];exact(h.r i (by omega) j _ (q0x _ hj)).1
variable {tb : Nat}
theorem TBO.keep (h:TBO base tb N rk t m w) (h0:w'.heap[tb]?=w.heap[tb]?) (hk:∀i,i<m->w'.heap[rk i]?=w.heap[rk i]?):TBO base tb N rk t m w':=
 ⟨fun i hi=>by rw[World.cell?_of_block (w:=w) (a:=⟨tb,i,none⟩) h0];exact h.c i hi,
  fun i h1 h2=>by rw[World.cell?_of_block (w:=w) (a:=⟨tb,i,none⟩) h0];exact h.z i h1 h2,
  fun i hi=>by rw[World.frozen?_of_block (w:=w) (a:=⟨tb,i,none⟩) h0];exact h.f i hi,
  fun i hi=>(h.r i hi).block (hk i hi),h.inj,h.ne⟩
theorem TBO.congr {t':Nat->Nat->Bool} (h:TBO base tb N rk t m w) (e:∀i j,i<m->j<N+1->t i j=t' i j):TBO base tb N rk t' m w:=
 ⟨h.c,h.z,h.f,fun i hi=>by rw[<-q0o (f:=t i) (fun j hj=>e i j hi hj)];exact h.r i hi,h.inj,h.ne⟩
def upT (t:Nat->Nat->Bool) (i j:Nat) (x:Bool) (a b:Nat):Bool:=if a=i/\b=j then x else t a b
theorem TBO.set (h:TBO base tb N rk t m w) {i j:Nat} (hi:i<m) (hj:j<N+1) (x:Bool):TBO base tb N rk (upT t i j x) m (w.setCell ⟨rk i,j,none⟩ (.bool x)):=by
 have hb:∀k,k≠rk i->(w.setCell ⟨rk i,j,none⟩ (.bool x)).heap[k]?=w.heap[k]?:=fun k hk=>Below.heap_setCell w ⟨rk i,j,none⟩ _ k (fun e=>hk e)
 have h0:=hb tb (fun e=>(h.ne i hi).1 e.symm);refine⟨fun a ha=>?_,fun a h1 h2=>?_,fun a ha=>?_,fun a ha=>?_,h.inj,h.ne⟩
 ·rw[World.cell?_of_block (w:=w) (a:=⟨tb,a,none⟩) h0];exact h.c a ha
 ·rw[World.cell?_of_block (w:=w) (a:=⟨tb,a,none⟩) h0];exact h.z a h1 h2
 ·rw[World.frozen?_of_block (w:=w) (a:=⟨tb,a,none⟩) h0];exact h.f a ha
 ·by_cases e:a=i
  ·subst e;have:=(h.r a ha).set j (by rw[q0c];exact hj) (.bool x);rw[q2O]at this;rw[q0o (g:=fun b=>if b=j then x else t a b) (fun b hb=>?_)]
   ·exact this
   ·simp[upT]
  ·rw[q0o (g:=t a) (fun b hb=>by simp[upT,e])];exact(h.r a ha).block (hb _ (fun e'=>e (h.inj a i ha hi e')))
theorem TBO.blk (h:TBO base tb N rk t m w):∀i,i<m->rk i<w.heap.size:=fun i hi=>World.block_lt_of_cell? w _ ((h.r i hi) 0 _ (q0x _ (by omega))).1
theorem TBO.row (h:TBO base tb N rk t m w) (hm:m<N+1) (ht:tb<w.heap.size) (hb:base<=w.heap.size) (ty:TypeId):
  TBO base tb N (fun a=>if a=m then w.heap.size else rk a) (fun a b=>if a=m then false else t a b) (m+1) ((w.alloc (.cells (bl (fun _=>false) (N+1)).toArray ty)).setCell ⟨tb,m,none⟩ (.slice (some ⟨w.heap.size,0,none⟩) (N+1) (N+1))):=by
 obtain⟨W,hW⟩:=nam (w.alloc (.cells (bl (fun _=>false) (N+1)).toArray ty));have B:Below w.heap.size w W:=by rw[hW];exact box_bel _ _
 have T:TC w.heap.size (bl (fun _=>false) (N+1)) W:=by rw[hW];exact TC.boxed w _ _
 have h1:=h.keep (B.block tb ht) (fun i hi=>B.block (rk i) (h.blk i hi));have hne:w.heap.size≠tb:=by omega
 rw[<-hW];have hk:∀k,k≠tb->(W.setCell ⟨tb,m,none⟩ (.slice (some ⟨w.heap.size,0,none⟩) (N+1) (N+1))).heap[k]?=W.heap[k]?:=fun k hk=>Below.heap_setCell W ⟨tb,m,none⟩ _ k (fun e=>hk e)
 have hcm:=h1.z m (Nat.le_refl _) hm;have hcs:∀a,a≠m->(W.setCell ⟨tb,m,none⟩ (.slice (some ⟨w.heap.size,0,none⟩) (N+1) (N+1))).cell? ⟨tb,a,none⟩=W.cell? ⟨tb,a,none⟩:=fun a ha=>World.cell?_setCell_other _ ⟨tb,m,none⟩ ⟨tb,a,none⟩ _ (fun e=>ha (by cases e;rfl))
 refine⟨fun a ha=>?_,fun a h2 h3=>?_,fun a ha=>?_,fun a ha=>?_,fun a b ha hb' e=>?_,fun a ha=>?_⟩
 ·by_cases e:a=m
  ·subst e;simp only[if_true];exact World.cell?_setCell_same _ _ _ hcm
  ·simp only[e,if_false];rw[hcs a e];exact h1.c a (by omega)
 ·rw[hcs a (by omega)];exact h1.z a (by omega) h3
 ·rw[World.frozen?_setCell];exact h1.f a ha
 ·by_cases e:a=m
  ·subst e;simp only[if_true];exact T.block (hk _ hne)
  ·simp only[e,if_false];exact(h1.r a (by omega)).block (hk _ (h1.ne a (by omega)).1)
 ·by_cases e1:a=m
  ·by_cases e2:b=m
   ·omega
   ·simp only[e1,e2,if_true,if_false]at e;have:=h.blk b (by omega);omega
  ·by_cases e2:b=m
   ·simp only[e1,e2,if_true,if_false]at e;have:=h.blk a (by omega);omega
   ·simp only[e1,e2,if_false]at e;exact h.inj a b (by omega) (by omega) e
 ·by_cases e:a=m
  ·simp only[e,if_true];exact⟨hne,hb⟩
  ·simp only[e,if_false];exact h.ne a (by omega)
def rowsTo (K:Nat) (rw:Nat->Nat->Int) (n:Nat):List Int:=(List.range n).map fun t=>rw (t/K) (t%K)
theorem q7L (K:Nat) (rw:Nat->Nat->Int) (n:Nat):rowsTo K rw (n+1)=rowsTo K rw n++[rw (n/K) (n%K)]:=by simp[rowsTo,List.range_succ]
theorem q5j (K:Nat) (rw:Nat->Nat->Int) (n:Nat):(rowsTo K rw n).length=n:=by simp[rowsTo]
theorem q5y (hk:k<K):(s*K+k)/K=s/\(s*K+k)%K=k:=by
 have hp:0<K:=by omega
 rw[Nat.mul_comm,Nat.mul_add_div hp,Nat.div_eq_of_lt hk,Nat.add_zero,Nat.mul_add_mod,Nat.mod_eq_of_lt hk];exact⟨rfl,rfl⟩
theorem q9k {rw:Nat->Nat->Int}{S:Nat} (hs:s<S) (hk:k<K):(rowsTo K rw (S*K)).getD (s*K+k) 0=rw s k:=by
 have h:s*K+k<S*K:=by
  have:(s+1)*K<=S*K:=Nat.mul_le_mul_right _ hs;rw[Nat.add_mul]at this;omega
 obtain⟨e1,e2⟩:=q5y (s:=s) hk;simp[rowsTo,List.getD_eq_getElem?_getD,h,e1,e2]
def rwOf (A:Aut) (E:Nat->Nat->Bool) (s k:Nat):Int:=gAt A (idxI E) ((reps E A.N).getD s 0) k
theorem q9l (gb:Nat) (A:Aut) (ta:Option Addr) (tc:Nat) (sv:Value) (E:Nat->Nat->Bool) (b1 b2:Nat) (vo vf:Value) (w:World) (hA:Aut.Small A) (hr:∀s k,s<A.N->k<A.K->-1<=A.to s k/\A.to s k<A.N) (hG:Gr gb A ta tc sv w) (ho:OwnL b1 vo (ofL E A.N) w) (hf:OwnL b2 vf (firstL E A.N) w):
  Calls Tryz.prog 132 #[.pointer (some ⟨gb,0,none⟩),.agg #[vo,vf]] w fun e w'=>∃v,e=.returned v/\OwnL w.heap.size v (rowsTo A.K (rwOf A E) (cnt E A.N*A.K)) w'/\Below w.heap.size w w':=by
 have hn:=hA.n;have hk2:=hA.k;have hcn:=cnt_le E A.N;obtain⟨oa,oc,hvo,ilo⟩:=ho.il;obtain⟨fa,fc,hvf,ilf⟩:=hf.il;rw[q1h]at hvo ilo;rw[q0u]at hvf ilf;subst hvo;subst hvf;have ilo2:IL oa (idxI E) A.N w:=ilo.congr (fun i hi=>by simp[ofL,List.getD_eq_getElem?_getD,hi]);clear ilo ho hf;obtain⟨c,hc⟩:∃c,c=cnt E A.N:=⟨_,rfl⟩;rw[<-hc]at ilf hcn ⊢;have Hc:Hid (c=cnt E A.N):=hc;clear hc;obtain⟨W,hW⟩:∃W,W=w.alloc (.cells #[.slice oa A.N oc,.slice fa c fc] 150):=⟨_,rfl⟩;have x0:Below w.heap.size w W:=by rw[hW];exact box_bel _ _
 have hT0:TC w.heap.size [.slice oa A.N oc,.slice fa c fc] W:=by rw[hW];exact TC.boxed _ _ _
 have HC:Hid (∀(s k:Nat) (w':World),s<A.N->k<A.K->Below W.heap.size W w'->Calls Tryz.prog 177 #[.pointer (some ⟨gb,0,none⟩),.slice oa A.N oc,.int .i64 s,.int .i64 k] w' fun e w''=>e=.returned (.int .i64 (gAt A (idxI E) s k))/\Below w'.heap.size w' w''):=fun s k w' hs hk h'=>q4N gb A ta tc sv oa oc (idxI E) s k w' hA hr ((hG.below x0).below h') ((ilo2.below x0).below h') hs hk
 have HK:Hid (∀w',Below W.heap.size W w'->w'.cell? ⟨gb,0,none⟩=some (.int .i64 A.K)):=fun w' h'=>((hG.below x0).below h').c0
 have HT:Hid (∀w',Below W.heap.size W w'->w'.cell? ⟨w.heap.size,0,none⟩=some (.slice oa A.N oc)):=fun w' h'=>(hT0.below h' 0 _ rfl).1
 have HF:Hid (∀w',Below W.heap.size W w'->IL fa (fun i=>(firstL E A.N).getD i 0) c w'):=fun w' h'=>(ilf.below x0).below h'
 have HX:=hyd x0;clear hG hA hr ilo2 ilf hT0 x0;go_enter Tryz.func132,Tryz.ntmps132;go_wp2_with fail;rw[<-hW];clear hW
 go_loopw [5,13] (fun v x w'=>∃s:Nat,s<=c/\x=.int .i64 s/\OwnL W.heap.size v (rowsTo A.K (rwOf A E) (s*A.K)) w'/\Below W.heap.size W w') (fun _ x _=>c-(intOf x).toNat)
 case atStart=>exact⟨0,by omega,rfl,by rw[Nat.zero_mul];exact OwnL.nil _ _,Below.refl _ _⟩
 case round=>
  obtain⟨s,hs,rfl,hO,hB⟩:=hrel;by_cases hlt:s<c
  ·have hlt':(s:Int)<c:=by omega
   obtain⟨r,hr⟩:∃r,(reps E A.N)[s]?=some r:=⟨(reps E A.N)[s]'(by have:=Hc.out;unfold cnt at this;omega),List.getElem?_eq_getElem _⟩;have hrn:=(reps_mem hr).1;have hgd:(firstL E A.N).getD s 0=(r:Int):=by simp[firstL,List.getD_eq_getElem?_getD,hr]
   have Hrw:Hid (∀k,rwOf A E s k=gAt A (idxI E) r k):=fun k=>by unfold rwOf;rw[show(reps E A.N).getD s 0=r by simp[List.getD_eq_getElem?_getD,hr]]
   obtain⟨fb_,fo_,hfa,c2⟩:=HF.out wr hB s hlt;simp only[hgd]at c2;subst hfa;have hSK:s*A.K<=200*256:=y0s (by omega) hk2;clear hr hgd;go_wp2_with fail
   go_loopw [5,8] (fun v x w'=>∃k:Nat,k<=A.K/\x=.int .i64 k/\OwnL W.heap.size v (rowsTo A.K (rwOf A E) (s*A.K+k)) w'/\Below W.heap.size W w') (fun _ x _=>A.K-(intOf x).toNat)
   case atStart=>exact⟨0,by omega,rfl,hO,hB⟩
   case round=>
    clear hO hB c2;obtain⟨k,hk,rfl,hO,hB⟩:=hrel;have c0:=HK.out wr hB;by_cases hkl:k<A.K
    ·have hkl':(k:Int)<(A.K:Int):=by omega
     have c1:=HT.out wr hB;go_wp2_with fail;refine(HC.out r k _ hrn hkl hB).mono ?_;rintro e w1 ⟨rfl,hW1⟩;have hB1:=hB.trans (hW1.mono hB.size);have hO1:=hO.below hW1;clear hO hB c0 c1 hW1;obtain⟨y,hy⟩:=nam (gAt A (idxI E) r k);rw[<-hy];have Hy:Hid (y=rwOf A E s k):=by show _=_;rw[hy,Hrw.out]
     clear hy;have hx:=box_bel w1 (.cells #[.int .i64 y] 3);have hO2:=hO1.below hx;have hB2:=hB1.trans (hx.mono hB1.size);have hge2:=hO2.blk;have hnw:(w1.alloc (.cells #[.int .i64 y] 3)).cell? ⟨w1.heap.size,0,none⟩=some (.int .i64 y):=by rw[World.cell?_alloc_new];rfl
     have hbs:=hB2.size;clear hx hO1 hB1;go_wp2_with (first|(at_builtin;refine wpList_append_int (by rfl) _ _ (by rfl) W.heap.size u5 (rowsTo A.K (rwOf A E) (s*A.K+k)) (by rfl) hO2 (by rw[q5j];omega) w1.heap.size y (by rfl) hnw hbs _ rfl ?_;intro g cap w5 hO5 hgrow hgb hl5));have e1:rowsTo A.K (rwOf A E) (s*A.K+k)++[y]=rowsTo A.K (rwOf A E) (s*A.K+(k+1)):=by
      rw[<-Nat.add_assoc,q7L,(q5y hkl).1,(q5y hkl).2,Hy.out]
     rw[e1]at hO5;go_roundw
     case rel=>exact⟨k+1,by omega,by go_num,hO5,hB2.grown hgrow hbs (fun q hq=>(hge2 q hq).1)⟩
     case measure=>simp[intOf];omega
    ·have hge:¬(k:Int)<(A.K:Int):=by omega
     have hkK:k=A.K:=by omega
     go_wp2_with fail;go_roundw
     case rel=>exact⟨s+1,by omega,by go_num,by rw[Nat.add_mul,Nat.one_mul];rw[hkK]at hO;exact hO,hB⟩
     case measure=>simp[intOf];omega
  ·have hge:¬(s:Int)<c:=by omega
   have hsc:s=c:=by omega
   go_wp2_with fail;go_ret;refine⟨u5,rfl,?_,HX.out.trans (hB.mono HX.out.size)⟩;rw[hsc]at hO;exact hO.mono HX.out.size
def Cl (rw:Nat->Nat->Int) (S:Nat) (a b:Nat):Bool:=(List.range S).all fun s=>rw s a==rw s b
theorem q2C (rw:Nat->Nat->Int) (S a b:Nat):Cl rw S a b=true<->∀s,s<S->rw s a=rw s b:=by simp[Cl]
theorem q9b (rw:Nat->Nat->Int) (S n:Nat):Eqv (Cl rw S) n:=
 ⟨fun a _=>(q2C rw S a a).2 (fun _ _=>rfl),fun a b _ _ h=>(q2C rw S b a).2 (fun s hs=>((q2C rw S a b).1 h s hs).symm),fun a b c _ _ _ h k=>(q2C rw S a c).2 (fun s hs=>((q2C rw S a b).1 h s hs).trans ((q2C rw S b c).1 k s hs))⟩
theorem q5a (ra:Option Addr) (rc K S:Nat) (rw:Nat->Nat->Int) (a b:Nat) (w:World) (hK:K<=256) (hS:S<=200) (ha:a<K) (hb:b<K) (hR:IL ra (fun i=>(rowsTo K rw (S*K)).getD i 0) (S*K) w):
  Calls Tryz.prog 178 #[.slice ra (S*K) rc,.int .i64 K,.int .i64 a,.int .i64 b] w fun e w'=>e=.returned (.bool (Cl rw S a b))/\Below w.heap.size w w':=by
 obtain⟨R,hRR⟩:=nam (Cl rw S a b);rw[<-hRR];have HR:Hid (R=true<->∀s,s<S->rw s a=rw s b):=by rw[hRR];exact q2C rw S a b
 clear hRR;have hSK:=y0s hS hK;obtain⟨M,hM⟩:=nam (S*K);have HI:Hid (∀(w':World),Below w.heap.size w w'->∀s k,s<S->k<K->∃b off,ra=some ⟨b,off,none⟩/\w'.cell? ⟨b,off+(s*K+k),none⟩=some (.int .i64 (rw s k))):=fun w' h' s k hs hk=>by
  have hl:s*K+k<S*K:=by
   have:(s+1)*K<=S*K:=Nat.mul_le_mul_right _ hs;rw[Nat.add_mul]at this;omega
  obtain⟨b,off,e,hc⟩:=(hR.below h') (s*K+k) hl;simp only[q9k hs hk]at hc;exact⟨b,off,e,hc⟩
 have HM:=hyd hM;rw[<-hM]at hSK ⊢;clear hM hR;go_enter Tryz.func178,Tryz.ntmps178;go_wp2_with fail
 go_loopw [9] (fun x w'=>∃s p:Nat,s<=S/\x=.int .i64 p/\Hid (p=s*K)/\p<=M/\Below w.heap.size w w'/\Hid (∀j,j<s->rw j a=rw j b)) (fun x _=>M-(intOf x).toNat)
 case atStart=>exact⟨0,0,by omega,rfl,by show _=_;simp,by omega,Below.refl _ _,fun j hj=>by omega⟩
 case round=>
  obtain⟨s,p,hs,rfl,Hp,hpM,hW,HJ⟩:=hrel;by_cases hlt:s<S
  ·have hsm:s*K+K<=S*K:=by
    have:(s+1)*K<=S*K:=Nat.mul_le_mul_right _ hlt;rw[Nat.add_mul]at this;omega
   have hlt':(p:Int)<M:=by have:=Hp.out;have:=HM.out;omega
   obtain⟨q1,hq1⟩:=nam (p+a);obtain⟨q2,hq2⟩:=nam (p+b);obtain⟨q3,hq3⟩:=nam (p+K);have i1:(p:Int)+(a:Int)=(q1:Int):=by omega
   have i2:(p:Int)+(b:Int)=(q2:Int):=by omega
   have i3:(p:Int)+(K:Int)=(q3:Int):=by omega
   have l1:(q1:Int)<M:=by have:=Hp.out;have:=HM.out;omega
   have l2:(q2:Int)<M:=by have:=Hp.out;have:=HM.out;omega
   have l3:q3<=M:=by have:=Hp.out;have:=HM.out;omega
   have l4:p<q3:=by omega
   obtain⟨g1,o1,hra,c1⟩:=HI.out wr hW s a hlt ha;obtain⟨g2,o2,hra2,c2⟩:=HI.out wr hW s b hlt hb;have Hq3:Hid (q3=(s+1)*K):=by show _=_;rw[Nat.add_mul,hq3,Hp.out];omega
   rw[<-Hp.out,<-hq1]at c1;rw[<-Hp.out,<-hq2]at c2;rw[hra]at hra2;cases hra2;subst hra;clear hq1 hq2 hq3 hsm;by_cases he:rw s a=rw s b
   ·have e1:(rw s a==rw s b)=true:=by simpa using he
    have e2:(rw s a != rw s b)=false:=by simp[he]
    have HJ2:Hid (∀j,j<s+1->rw j a=rw j b):=fun j hj=>by
     by_cases ej:j=s
     ·subst ej;exact he
     ·exact HJ.out j (by omega)
    clear he HJ;go_wp2_with fail
    go_quiet (fail)
    go_wp2_with fail;go_roundw
    case rel=>exact⟨s+1,q3,by omega,by go_num,Hq3,l3,hW.trans (q1w _ _ _),HJ2⟩
    case measure=>simp[intOf];omega
   ·have e1:(rw s a==rw s b)=false:=by simpa using he
    have e2:(rw s a != rw s b)=true:=by simp[he]
    have HR1:Hid (R=false):=by
     show _=_;cases hR:R
     ·rfl
     ·exact absurd (HR.out.1 hR s hlt) he
    clear he HJ;go_wp2_with fail
    go_quiet (fail)
    go_wp2_with fail;go_ret;exact⟨q0v HR1.out.symm,hW.trans (q1w _ _ _)⟩
  ·have hge:¬(p:Int)<M:=by
    have e1:=Hp.out;have e2:=HM.out;have e3:s=S:=by omega
    rw[e3,<-e2]at e1;omega
   have HR1:=hyd (HR.out.2 (fun j hj=>HJ.out j (by omega)));go_wp2_with fail;go_ret;exact⟨q0v HR1.out.symm,hW⟩
structure CN (w:World) (vo vf:Value) (lo lf:List Int) (W:World):Prop where
 o:OwnL w.heap.size vo lo W
 f:OwnL w.heap.size vf lf W
 ne:∀k,vo.ownBlock=some k->vf.ownBlock≠some k
 b:Below w.heap.size w W
theorem CN.below {lo:List Int} (h:CN w vo vf lo lf W) (hW:Below W.heap.size W W'):CN w vo vf lo lf W':=
 ⟨h.o.below hW,h.f.below hW,h.ne,h.b.trans (hW.mono h.b.size)⟩
theorem CN.putF {w:World}{vo vf:Value}{lo lf lf':List Int}{W W1 w5:World}{n g cap:Nat}{ob:Obj} (h:CN w vo vf lo lf W) (hW1:W1=W.alloc ob)
  (h5:OwnL w.heap.size (.slice (some ⟨g,0,none⟩) n cap) lf' w5) (hg:W1.grownBy w5 vf.ownBlock) (hgb:vf.ownBlock=some g\/g=W1.heap.size):CN w vo (.slice (some ⟨g,0,none⟩) n cap) lo lf' w5:=by
 have x1:Below W.heap.size W W1:=by rw[hW1];exact box_bel _ _
 have hz1:W1.heap.size=W.heap.size+1:=by rw[hW1];simp
 have k1:=h.below x1;have hfb:=h.f.blk;refine⟨k1.o.grown hg (fun k hk e=>h.ne k hk e),h5,?_,k1.b.grown hg k1.b.size (fun q hq=>(hfb q hq).1)⟩;intro k hk e;have e2:g=k:=Option.some.inj e;have hk2:=h.o.blk k hk;rcases hgb with h1|h1
 ·rw[e2]at h1;exact h.ne k hk h1
 ·omega
theorem CN.putO {w:World}{vo vf:Value}{lo lf lo':List Int}{W W1 w5:World}{n g cap:Nat}{ob:Obj} (h:CN w vo vf lo lf W) (hW1:W1=W.alloc ob)
  (h5:OwnL w.heap.size (.slice (some ⟨g,0,none⟩) n cap) lo' w5) (hg:W1.grownBy w5 vo.ownBlock) (hgb:vo.ownBlock=some g\/g=W1.heap.size):CN w (.slice (some ⟨g,0,none⟩) n cap) vf lo' lf w5:=by
 have x1:Below W.heap.size W W1:=by rw[hW1];exact box_bel _ _
 have hz1:W1.heap.size=W.heap.size+1:=by rw[hW1];simp
 have k1:=h.below x1;have hfb:=h.o.blk;refine⟨h5,k1.f.grown hg (fun k hk e=>h.ne k e hk),?_,k1.b.grown hg k1.b.size (fun q hq=>(hfb q hq).1)⟩;intro k hk e;have e2:g=k:=Option.some.inj hk;have hk2:=h.f.blk k e;rcases hgb with h1|h1
 ·rw[e2]at h1;exact h.ne k h1 e
 ·omega
def ClassPost (E:Nat->Nat->Bool) (n:Nat) (w:World) (e:Ending) (w':World):Prop:=
 ∃vo vf,e=.returned (.tuple #[vo,vf])/\OwnL w.heap.size vo (ofL E n) w'/\OwnL w.heap.size vf (firstL E n) w'/\Below w.heap.size w w'
theorem q6E (ra:Option Addr) (rc K S:Nat) (rw:Nat->Nat->Int) (w:World) (hK:K<=256) (hS:S<=200) (hR:IL ra (fun i=>(rowsTo K rw (S*K)).getD i 0) (S*K) w):
  Calls Tryz.prog 133 #[.slice ra (S*K) rc,.int .i64 K] w (ClassPost (Cl rw S) K w):=by
 have HC:Hid (∀(a b:Nat) (w':World),a<K->b<K->Below w.heap.size w w'->Calls Tryz.prog 178 #[.slice ra (S*K) rc,.int .i64 K,.int .i64 a,.int .i64 b] w' fun e w''=>e=.returned (.bool (Cl rw S a b))/\Below w'.heap.size w' w''):=fun a b w' ha hb h'=>q5a ra rc K S rw a b w' hK hS ha hb (hR.below h')
 have HE:=hyd (q9b rw S K);obtain⟨M,hM⟩:=nam (S*K);rw[<-hM]at HC ⊢;clear hR hM;generalize Cl rw S=E at *;go_enter Tryz.func133,Tryz.ntmps133;go_wp2_with fail
 go_loopw [6,7,8] (fun vo vf x w'=>∃a:Nat,a<=K/\x=.int .i64 a/\CN w vo vf (ofL E a) (firstL E a) w') (fun _ _ x _=>K-(intOf x).toNat)
 case atStart=>exact⟨0,by omega,rfl,OwnL.nil _ _,OwnL.nil _ _,fun k hk=>(by cases hk),Below.refl _ _⟩
 case round=>
  obtain⟨a,ha,rfl,S1⟩:=hrel;by_cases hlt:a<K
  ·have hlt':(a:Int)<K:=by omega
   obtain⟨fa,fc,hvf,_⟩:=S1.f.il;obtain⟨va,vc,hvo,_⟩:=S1.o.il;subst hvf;subst hvo;rw[q0u]at S1;rw[q1h]at S1;have hnew:=rep_new HE.out hlt;have hcl:=cnt_le E a;obtain⟨id,hid⟩:=nam (idx E a);rw[<-hid]at hnew;have Hid1:=hyd hid;clear hid;rw[q0u,q1h];obtain⟨c,hc⟩:=nam (cnt E a);have Hc:=hyd hc;rw[<-hc]at hnew hcl S1 ⊢;clear hc;have HNew:=hyd hnew.1;have hidc:=hnew.2;clear hnew;go_wp2_with fail
   go_loopw [9] (fun x w'=>∃j:Nat,j<=id/\x=.int .i64 j/\CN w (.slice va a vc) (.slice fa c fc) (ofL E a) (firstL E a) w') (fun x _=>c-(intOf x).toNat)
   case atStart=>exact⟨0,by omega,rfl,S1⟩
   case round=>
    clear S1;obtain⟨j,hj,rfl,S1⟩:=hrel;by_cases hjc:j<c
    ·have hjc':(j:Int)<c:=by omega
     obtain⟨r,hr⟩:∃r,(reps E a)[j]?=some r:=⟨(reps E a)[j]'(by have:=Hc.out;unfold cnt at this;omega),List.getElem?_eq_getElem _⟩;have hrm:=reps_mem hr;have hlk:=rep_like HE.out hlt hr;rw[<-Hid1.out]at hlk;obtain⟨ad2,cap2,hv2,il2⟩:=S1.f.il;have hv3:=(Value.slice.inj hv2).1;rw[<-hv3]at il2;obtain⟨fb_,fo_,hfa,c2⟩:=il2 j (by rw[q0u,<-Hc.out];exact hjc);subst hfa;have hgd:(firstL E a).getD j 0=(r:Int):=by simp[firstL,List.getD_eq_getElem?_getD,hr]
     simp only[hgd]at c2;have HCr1:=hyd (HC.out r a wr (by omega) hlt S1.b);have Hlk:=hyd hlk;clear hlk hr hrm hv2 il2 hgd hv3;go_wp2_with fail;refine HCr1.out.mono ?_;rintro e w2 ⟨rfl,hW2⟩;have S2:=S1.below hW2;clear S1 c2 HCr1 hW2;cases hE:E r a
     ·have hne:j≠id:=fun e=>by have:=Hlk.out.2 e;rw[hE]at this;cases this
      go_wp2_with fail;go_roundw
      case rel=>exact⟨j+1,by omega,by go_num,S2⟩
      case measure=>simp[intOf];omega
     ·have hji:=Hlk.out.1 hE;subst hji;have hold:least E a≠a:=fun e=>by have:=HNew.out.2 e;omega
      have q1:((j:Int)==(c:Int))=false:=by simp;omega
      have hx:=box_bel w2 (.cells #[.int .i64 (j:Int)] 3);have hO1:=S2.o.below hx;have hnw:(w2.alloc (.cells #[.int .i64 (j:Int)] 3)).cell? ⟨w2.heap.size,0,none⟩=some (.int .i64 (j:Int)):=by rw[World.cell?_alloc_new];rfl
      have hbs:=Nat.le_trans S2.b.size hx.size;have HS2:=hyd S2;have Hold:=hyd hold;clear S2 hx hold;go_wp2_with (first|(at_builtin;refine wpList_append_int (by rfl) _ _ (by rfl) w.heap.size (.slice va a vc) (ofL E a) (by rfl) hO1 (by rw[q1h];omega) w2.heap.size (j:Int) (by rfl) hnw hbs _ rfl ?_;intro g cap w5 hO5 hgrow hgb hl5));have S3:=HS2.out.putO rfl hO5 hgrow hgb;have e1:ofL E a++[(j:Int)]=ofL E (a+1):=by rw[q4c];unfold idxI;rw[<-Hid1.out]
      have e2:firstL E (a+1)=firstL E a:=by rw[q1t,if_neg Hold.out,List.append_nil]
      rw[e1,<-e2]at S3;go_roundw
      case rel=>exact⟨a+1,by omega,by go_num,S3⟩
      case measure=>simp[intOf];omega
    ·have hjc2:c=j:=by omega
     have hic:id=c:=by omega
     have hnw2:=HNew.out.1 hic;have HIc:=hyd hic;clear hic hj hidc HNew;subst hjc2;have hge:¬(c:Int)<c:=by omega
     have q1:((c:Int)==(c:Int))=true:=by simp
     have hx:=box_bel wr (.cells #[.int .i64 (a:Int)] 3);have hO1:=S1.f.below hx;have hnw:(wr.alloc (.cells #[.int .i64 (a:Int)] 3)).cell? ⟨wr.heap.size,0,none⟩=some (.int .i64 (a:Int)):=by rw[World.cell?_alloc_new];rfl
     have hbs:=Nat.le_trans S1.b.size hx.size;have HS2:=hyd S1;have Hold:=hyd hnw2;have hfl:=q0u E a;rw[<-Hc.out]at hfl;have Hfl:=hyd hfl;have HX:Hid (∀g cap w5,OwnL w.heap.size (.slice (some ⟨g,0,none⟩) (c+1) cap) (firstL E a++[(a:Int)]) w5->(wr.alloc (.cells #[.int .i64 (a:Int)] 3)).grownBy w5 (Value.slice fa c fc).ownBlock->((Value.slice fa c fc).ownBlock=some g\/g=(wr.alloc (.cells #[.int .i64 (a:Int)] 3)).heap.size) ->
       CN w (.slice va a vc) (.slice (some ⟨g,0,none⟩) (c+1) cap) (ofL E a) (firstL E a++[(a:Int)]) w5):=fun g cap w5 h1 h2 h3=>HS2.out.putF rfl h1 h2 h3
     have HK2:Hid (∀(v:Value) (w5:World),CN w (.slice va a vc) v (ofL E a) (firstL E a++[(a:Int)]) w5 ->
       OwnL w.heap.size (.slice va a vc) (ofL E a) (w5.alloc (.cells #[.int .i64 (c:Int)] 3))/\(w5.alloc (.cells #[.int .i64 (c:Int)] 3)).cell? ⟨w5.heap.size,0,none⟩=some (.int .i64 (c:Int))/\w.heap.size<=(w5.alloc (.cells #[.int .i64 (c:Int)] 3)).heap.size):=fun v w5 hF=>by
      have hx:=box_bel w5 (.cells #[.int .i64 (c:Int)] 3);exact⟨hF.o.below hx,by rw[World.cell?_alloc_new];rfl,Nat.le_trans hF.b.size hx.size⟩
     clear S1 hx hnw2 hfl;go_wp2_with (first|(at_builtin;refine wpList_append_int (by rfl) _ _ (by rfl) w.heap.size (.slice fa c fc) (firstL E a) (by rfl) hO1 (by rw[Hfl.out];omega) wr.heap.size (a:Int) (by rfl) hnw hbs _ rfl ?_;rw[Hfl.out];intro g cap w5 hO5 hgrow hgb hl5;have S5:=HX.out g cap w5 hO5 hgrow hgb;obtain⟨hO6,hn6,hb6⟩:=HK2.out _ w5 S5)|(at_builtin;refine wpList_append_int (by rfl) _ _ (by rfl) w.heap.size (.slice va a vc) (ofL E a) (by rfl) hO6 (by rw[q1h];omega) w5.heap.size (c:Int) (by rfl) hn6 hb6 _ rfl ?_;intro g2 cap2 w7 hO7 hgrow7 hgb7 hl7));have S7:=S5.putO rfl hO7 hgrow7 hgb7;have e1:ofL E a++[(c:Int)]=ofL E (a+1):=by rw[q4c];unfold idxI;rw[<-Hid1.out,HIc.out]
     have e2:firstL E a++[(a:Int)]=firstL E (a+1):=by rw[q1t,if_pos Hold.out]
     rw[e1,e2]at S7;go_roundw
     case rel=>exact⟨a+1,by omega,by go_num,S7⟩
     case measure=>simp[intOf];omega
  ·have hge:¬(a:Int)<K:=by omega
   have haN:a=K:=by omega
   subst haN;go_wp2_with fail;go_ret2;exact⟨u6,u7,rfl,S1.o,S1.f,S1.b⟩
end Go.Proofs.YtoaaklhpmhjhkaaGreat
