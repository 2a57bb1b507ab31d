import Derived.Test.YtoaaklhpmhjhkaaGreatC35
set_option maxRecDepth 100000
set_option maxHeartbeats 4000000
set_option linter.all false
namespace Go.Proofs.YtoaaklhpmhjhkaaGreat
open Go.RowKit
open Bm
theorem eInfoNode:∃i,Tryz.prog.info? 118=some i/\i.zero=some (.agg nodZ.toArray)/\i.size=5/\i.bytes=72:=by
 have h:(Tryz.prog.info? 118).isSome=true:=by kernel_rfl
 obtain⟨i,hi⟩:=Option.isSome_iff_exists.1 h;refine⟨i,hi,?_,?_,?_⟩
 ·have:((Tryz.prog.info? 118).bind (·.zero))=some (.agg nodZ.toArray):=by kernel_rfl
  rw[hi]at this;simpa using this
 ·have:((Tryz.prog.info? 118).map (·.size))=some 5:=by kernel_rfl
  rw[hi]at this;simpa using this
 ·have:((Tryz.prog.info? 118).map (·.bytes))=some 72:=by kernel_rfl
  rw[hi]at this;simpa using this
theorem q6U (cs:List Value) (hl:cs.length=5) (w:World):(Instr.buildSlice 114 1 #[(0,.agg cs.toArray)]).run Tryz.prog w=.ok (.slice (some ⟨w.heap.size,0,none⟩) 1 1) (w.alloc (.cells cs.toArray 118)):=by
 have hs:(sizeOf 118).run Tryz.prog w=.ok 5 w:=by kernel_rfl
 have hz:=q1Z w;have hfill:=q6y (fun i=>some (i*5,5)) ((Array.range (1*5)).map (nodZ.toArray[·%nodZ.toArray.size]!)) (.agg cs.toArray) 5 rfl (by simp[Value.cells,hl]) (by simp);have e1:(Value.agg cs.toArray).cells=cs.toArray:=rfl;have e2:(Value.agg #[.int .i64 0,.slice none 0 0,.slice none 0 0,.int .i64 0,.int .i64 0]).cells=nodZ.toArray:=rfl;rw[e1]at hfill;simp only[Instr.buildSlice,Sem.run_bind,run_underlying Tryz.underlying114,Result.andThen_ok,hs,Sem.run_ite,hz,e2,Sem.run_pure,hfill,newRow];simp
variable {a : Act}{ops : Array Oper}{Q : Exit → Act → World → Prop}{l : List (Nat → Bool)}{t0 : List Int}{kids : List Nat}{rest : List Oper}{M N P R b base cap g gb i k kind n q s tb : Nat}{F : Nat → Bool}{to : Nat → Int}{Ns ix nd ti : Nat → Nat}{E : Nat → Nat → Bool}{S S' : Nat → Prop}{o op : Oper}{v vr : Value}{W w w' w5 : World}
theorem q4k (hgd:op.guard=none) (x:Operand) (ho:op.op=.buildSlice 114 1 #[(0,x)])
  (cs:List Value) (hl:cs.length=5) (hx:a.eval x=.agg cs.toArray) (h:wpList Tryz.prog ops Q rest (a.put op.dst (.slice (some ⟨w.heap.size,0,none⟩) 1 1)) (w.alloc (.cells cs.toArray 118))):wpList Tryz.prog ops Q (op::rest) a w:=
 wpList_plain hgd fun _ hK=>by
  unfold Oper.wp execOp;have hq:=q6U cs hl w;have e:(#[((0:Nat),x)].map fun(p:Nat × Operand)=>(p.1,a.eval p.2))=#[(0,.agg cs.toArray)]:=by simp[hx]
  simp only[ho,Sem.run_bind,e,hq,Result.andThen_ok,Sem.run_pure];exact hK _ _ h
theorem q3b (hgd:o.guard=none) (s x:Operand)
  (ho:o.op=.call { callee:=.builtin .append,args:=#[s,x],argTypes:=#[114,114] }) (base:Nat)
  (v:Value) (N:Nat) (xs:List Value) (hs:a.eval s=v) (hown:w.ownsRow base 118 5 v N xs) (hn:N<=1000000)
  (B:Nat) (cs:List Value) (hl:cs.length=5) (hone:∀u∈cs,u.oneCell'=true) (hx:a.eval x=.slice (some ⟨B,0,none⟩) 1 1) (hnews:w.rangeAt B 0 cs) (hbase:base<=w.heap.size) (H:Nat) (hH:w.heap.size=H)
  (h:∀g cap w',w'.ownsRow base 118 5 (.slice (some ⟨g,0,none⟩) (N+1) cap) (N+1) (xs++cs)->w.grownBy w' v.ownBlock->(v.ownBlock=some g\/g=H)->g<w'.heap.size->wpList Tryz.prog ops Q rest (a.put o.dst (.slice (some ⟨g,0,none⟩) (N+1) cap)) w'):wpList Tryz.prog ops Q (o::rest) a w:=by
 obtain⟨i,hi,hz0,hz1,hz2⟩:=eInfoNode;exact wpList_append_lies w hgd s x 114 ho base 118 i _ 5 72 Tryz.underlying114 hi hz0 hz1 hz2 (by simp[Value.cells,nodZ]) (by omega) v N xs hs hown ⟨B,0,none⟩ 1 1 cs hx (by omega) (fun j u hu=>by rw[Addr.add_lit];exact hnews j u hu) hone (by omega) (by unfold maxLen;omega) (by omega) hbase H hH h
variable {T T' : Nat → Nd}
theorem TW.poke (h:TW tb base T N M (.slice (some ⟨g,0,none⟩) N cap) vr S w) (htb:tb<base) (k j:Nat) (hk:k<N) (hj:j<5) (u:Value)
  (h1:∀m i,i<N->ndL T' m i=if i=k then (ndL T m k).set j u else ndL T m i) (h2:∀i,i<N->(T' i).kind=(T i).kind/\(T' i).kids=(T i).kids/\(T' i).inn=(T i).inn):
  TW tb base T' N M (.slice (some ⟨g,0,none⟩) N cap) vr S (w.setCell ⟨g,k*5+j,none⟩ u):=by
 have hg:=(h.blk g rfl).1;obtain⟨m,o1,o2⟩:=h.o;have hb:∀q,q≠g->(w.setCell ⟨g,k*5+j,none⟩ u).heap[q]?=w.heap[q]?:=fun q hq=>Below.heap_setCell w ⟨g,k*5+j,none⟩ _ q (fun e=>hq e)
 refine⟨h.c.block (hb tb (by omega)),⟨m,?_,(o2.congr h2).move (fun q hq=>hb q (fun e=>(h.s q hq).2.2 (by rw[e];rfl))) (fun _ h=>h)⟩,fun q hq=>⟨by rw[World.size_setCell];exact(h.s q hq).1,(h.s q hq).2⟩⟩;have:=(o1.stored (k*5+j) u).1;rw[q7u (q2V T m) k j hk hj,q2X (E:=ndL T' m) (fun i hi=>(h1 m i hi).symm)]at this;exact this
theorem TF.poke (h:TF tb v (.slice (some ⟨g,0,none⟩) n cap) S S' w w') (hg:tb<=g) (q:Nat) (u:Value):TF tb v (.slice (some ⟨g,0,none⟩) n cap) S S' w (w'.setCell ⟨g,q,none⟩ u):=
 ⟨h.b.setCell (p:=⟨g,q,none⟩) hg u,fun k hk h1 h2=>by
  rw[Below.heap_setCell w' ⟨g,q,none⟩ _ k (fun e=>?_)]
  ·exact h.k k hk h1 h2
  ·have e':=e;subst e';rcases h.o k rfl with h3|h3
   ·exact h2 h3
   ·omega,h.o,h.s⟩
def newN (kind:Nat) (kids:List Nat):Nd:=⟨kind,kids,-1,0,fun _=>false⟩
def addK (T:Nat->Nd) (N kind:Nat) (kids:List Nat) (i:Nat):Nat->Nd:=fun n=>
 if n=N then newN kind kids else if n∈kids.take i then { T n with up:=N,at_:=kids.idxOf n } else T n
theorem y2d (T:Nat->Nd) (N kind:Nat) (kids:List Nat):addK T N kind kids kids.length=addN T N kind kids (fun _=>false):=by
 funext n
 unfold addK addN newN;rw[List.take_length]
theorem y3J (T:Nat->Nd) (N kind:Nat) (kids:List Nat) (i n:Nat):(addK T N kind kids i n).kind=(addK T N kind kids 0 n).kind/\(addK T N kind kids i n).kids=(addK T N kind kids 0 n).kids/\(addK T N kind kids i n).inn=(addK T N kind kids 0 n).inn:=by
 unfold addK;by_cases h:n=N
 ·simp[h]
 ·simp only[h,if_false,List.take_zero,List.not_mem_nil];split<;>exact⟨rfl,rfl,rfl⟩
def addU (T:Nat->Nd) (N kind:Nat) (kids:List Nat) (i k:Nat):Nat->Nd:=fun n=>if n=k then { addK T N kind kids i n with up:=N } else addK T N kind kids i n
theorem q7D (hd:kids.Nodup) (hk:kids[i]?=some k) (hkN:k<N) (n:Nat):addK T N kind kids (i+1) n=if n=k then { addU T N kind kids i k n with at_:=i } else addU T N kind kids i k n:=by
 obtain⟨hi,he⟩:=List.getElem?_eq_some_iff.1 hk;have hix:kids.idxOf k=i:=by rw[<-he];exact hd.idxOf_getElem i hi
 unfold addU addK;rw[List.take_add_one,hk];by_cases h:n=k
 ·subst h;have hn:¬n=N:=by omega
  simp only[if_true,hn,if_false,Option.toList_some,List.mem_append,List.mem_singleton,or_true,hix];split<;>rfl
 ·by_cases h2:n=N
  ·subst h2;simp[h]
  ·simp only[h,h2,if_false,Option.toList_some,List.mem_append,List.mem_singleton,or_false]
theorem q9w {P:Nat->Prop}{ka:Option Addr}{kc:Nat}{m:Lie} (hT:TW tb base T N N v vr S w) (o2:LieOK S T m N N w) (hK:∀w',AgX P w w'->IL ka (fun k=>((kids.getD k 0:Nat):Int)) kids.length w') (hP:∀k,P k->k<w.heap.size/\k≠tb/\v.ownBlock≠some k) (htb:tb<base) (_hb:base<=w.heap.size)
  (BW:Below w.heap.size w W) (hO:w5.ownsRow base 118 5 (.slice (some ⟨g,0,none⟩) (N+1) cap) (N+1) (flatN N (ndL T m)++ndC (newN kind kids) (.slice none 0 0) ka kc)) (hg:W.grownBy w5 v.ownBlock) (hgb:v.ownBlock=some g\/g=W.heap.size):
  TW tb base (addK T N kind kids 0) (N+1) N (.slice (some ⟨g,0,none⟩) (N+1) cap) vr (fun k=>S k\/P k) (w5.setCell ⟨tb,0,none⟩ (.slice (some ⟨g,0,none⟩) (N+1) cap))/\TF tb v (.slice (some ⟨g,0,none⟩) (N+1) cap) S S w (w5.setCell ⟨tb,0,none⟩ (.slice (some ⟨g,0,none⟩) (N+1) cap)):=by
 have hsz:=BW.size;have hs5:=hg.size;have htw:=hT.c.lt;have hgg:=(hO.lt g rfl).1;have hvb:=hT.blk;obtain⟨w6,h6⟩:∃w6,w6=w5.setCell ⟨tb,0,none⟩ (.slice (some ⟨g,0,none⟩) (N+1) cap):=⟨_,rfl⟩;have hb6:∀k,k≠tb->w6.heap[k]?=w5.heap[k]?:=fun k hk=>by rw[h6];exact Below.heap_setCell w5 ⟨tb,0,none⟩ _ k (fun e=>hk e)
 have hs6:w6.heap.size=w5.heap.size:=by rw[h6,World.size_setCell]
 have hkeep:∀k,k<w.heap.size->k≠tb->v.ownBlock≠some k->w6.heap[k]?=w.heap[k]?:=fun k h1 h2 h3=>by
  rw[hb6 k h2,hg.block k (by omega) (fun e=>h3 e.symm),BW.block k h1]
 have c5:TC tb [v,vr] w5:=hT.c.block (by rw[hg.block tb (by omega) (fun e=>by have:=(hvb tb e.symm).1;omega),BW.block tb htw]);have old:∀i,i<N->addK T N kind kids 0 i=T i:=fun i hi=>by
  unfold addK;rw[if_neg (by omega),List.take_zero,if_neg (by simp)]
 have new:addK T N kind kids 0 N=newN kind kids:=by unfold addK;rw[if_pos rfl]
 rw[<-h6];refine⟨⟨by rw[h6];exact c5.set 0 (by simp) _,⟨⟨fun i=>if i=N then .slice none 0 0 else m.vin i,fun i=>if i=N then ka else m.ka i,fun i=>if i=N then kc else m.kc i⟩,?_,?_⟩,fun k hk=>?_⟩,?_,hkeep,fun k hk=>?_,fun k hk=>Or.inl hk⟩
 ·have e:flatN (N+1) (ndL (addK T N kind kids 0) ⟨fun i=>if i=N then .slice none 0 0 else m.vin i,fun i=>if i=N then ka else m.ka i,fun i=>if i=N then kc else m.kc i⟩)=flatN N (ndL T m)++ndC (newN kind kids) (.slice none 0 0) ka kc:=by
   rw[q2f];congr 1
   ·refine q2X (fun i hi=>?_);have hne:¬i=N:=by omega
    simp only[ndL,old i hi,hne,if_false]
   ·simp only[ndL,new,if_true]
  rw[e];exact q0R hO (fun k hk=>hb6 k (by cases hk;show g≠tb;omega))
 ·refine⟨fun i hi=>?_,fun i hi w' hA=>?_,fun i hi hm h0=>?_⟩
  ·by_cases e:i=N
   ·simp only[e,if_true];rfl
   ·simp only[e,if_false];exact o2.o i (by omega)
  ·by_cases e:i=N
   ·subst e;simp only[if_true,new];exact hK w' (fun k hk=>by rw[hA k (Or.inr hk)];exact hkeep k (hP k hk).1 (hP k hk).2.1 (hP k hk).2.2)
   ·simp only[e,if_false,old i (by omega)];exact o2.k i (by omega) w' (fun k hk=>by rw[hA k (Or.inl hk)];exact hkeep k (hT.s k hk).1 (hT.s k hk).2.1 (hT.s k hk).2.2)
  ·have e:¬i=N:=by omega
   rw[old i hm]at h0 ⊢;obtain⟨ia,ic,e1,e2⟩:=o2.i i hm hm h0;refine⟨ia,ic,by simp only[e,if_false];exact e1,fun w' hA=>e2 w' (fun k hk=>by rw[hA k (Or.inl hk)];exact hkeep k (hT.s k hk).1 (hT.s k hk).2.1 (hT.s k hk).2.2)⟩
 ·have h1:k<w.heap.size/\k≠tb/\v.ownBlock≠some k:=by
   rcases hk with h|h
   ·exact hT.s k h
   ·exact hP k h
  refine⟨by omega,h1.2.1,fun e=>?_⟩;have e':g=k:=Option.some.inj e;rcases hgb with h|h
  ·exact h1.2.2 (e'▸h)
  ·omega
 ·have B5:Below tb w w5:=(BW.mono (by omega)).grown hg (by omega) (fun q hq=>by have:=(hvb q hq).1;omega);rw[h6];exact B5.setCell (p:=⟨tb,0,none⟩) (Nat.le_refl _) _
 ·cases hk;rcases hgb with h|h
  ·exact Or.inl h
  ·exact Or.inr (by show w.heap.size<=g;omega)
theorem q6O (tb base:Nat) (T:Nat->Nd) (N:Nat) (v vr:Value) (S P:Nat->Prop) (kind:Nat) (vk:Value) (kids:List Nat) (w:World) (hT:TW tb base T N N v vr S w) (hK:KiL P vk kids w) (hP:∀k,P k->k<w.heap.size/\k≠tb/\v.ownBlock≠some k)
  (hk:∀k∈kids,k<N) (hd:kids.Nodup) (htb:tb<base) (hb:base<=w.heap.size) (hN:N<=1000000) (hl:kids.length<=1000):
  Calls Tryz.prog 148 #[.pointer (some ⟨tb,0,none⟩),.int .i64 kind,vk] w fun e w'=>∃v',e=.returned (.int .i64 N)/\TW tb base (addN T N kind kids (fun _=>false)) (N+1) N v' vr (fun k=>S k\/P k) w'/\TF tb v v' S S w w':=by
 have hz:=q1Z;obtain⟨ka,kc,rfl,hil⟩:=hK;obtain⟨n,hn⟩:=nam kids.length;have Hn:=hyd hn;have Hil:=hyd hil;have HP:=hyd hP;obtain⟨m,o1,o2⟩:=hT.o;have hvs:∃na nc,v=.slice na N nc:=by
  rcases o1.2 with ⟨h1,h2⟩|⟨g,cap,cur,h1,_⟩
  ·exact⟨none,0,by rw[h1,h2]⟩
  ·exact⟨_,_,h1⟩
 obtain⟨na,nc,hv⟩:=hvs;have Hv:=hyd hv;have c0:=(hT.c 0 _ rfl).1;rw[hv]at c0;have htw:=hT.c.lt;have hl':(n:Int)<=1000:=by omega
 rw[<-hn];obtain⟨W,hW⟩:=nam (w.alloc (.cells (ndC (newN kind kids) (.slice none 0 0) ka kc).toArray 118));have HW:=hyd hW;have BW:Below w.heap.size w W:=by rw[hW];exact box_bel _ _
 have hnew:W.rangeAt w.heap.size 0 (ndC (newN kind kids) (.slice none 0 0) ka kc):=by rw[hW];exact(TC.boxed w _ _).range
 have oW:=q0R o1 (fun k hk=>BW.block k (o1.lt k hk).2);have hbW:base<=W.heap.size:=by have:=BW.size;omega
 have Hone:Hid (∀u∈ndC (newN kind kids) (.slice none 0 0) ka kc,u.oneCell'=true):=by
  show ∀u∈_,_;intro u hu;simp only[ndC,List.mem_cons,List.not_mem_nil,or_false]at hu;rcases hu with rfl|rfl|rfl|rfl|rfl<;>rfl
 have Hcs:Hid (ndC (newN kind kids) (.slice none 0 0) ka kc=[.int .i64 kind,.slice none 0 0,.slice ka n kc,.int .i64 (-1),.int .i64 0]):=by show _=_;rw[hn];rfl
 have HK:Hid (∀w5,W.grownBy w5 v.ownBlock->TC tb [v,vr] w5):=fun w5 hg=>hT.c.block (by rw[hg.block tb (by have:=BW.size;omega) (fun e=>by have:=(o1.lt tb e.symm).1;omega),BW.block tb htw])
 have HS:Hid (∀g cap w5,w5.ownsRow base 118 5 (.slice (some ⟨g,0,none⟩) (N+1) cap) (N+1) (flatN N (ndL T m)++ndC (newN kind kids) (.slice none 0 0) ka kc)->W.grownBy w5 v.ownBlock->(v.ownBlock=some g\/g=W.heap.size)->TW tb base (addK T N kind kids 0) (N+1) N (.slice (some ⟨g,0,none⟩) (N+1) cap) vr (fun k=>S k\/P k) (w5.setCell ⟨tb,0,none⟩ (.slice (some ⟨g,0,none⟩) (N+1) cap))/\TF tb v (.slice (some ⟨g,0,none⟩) (N+1) cap) S S w (w5.setCell ⟨tb,0,none⟩ (.slice (some ⟨g,0,none⟩) (N+1) cap))):=
  fun g cap w5 h1 h2 h3=>q9w hT o2 hil hP htb hb BW h1 h2 h3
 clear hv hT hil hP o1 o2 hW hn;go_enter Tryz.func148,Tryz.ntmps148;go_wp2_with (first|(with_reducible show wpList _ _ _ (⟨_,Op.buildSlice 114 _ _,_,_,_,_⟩::_) _ _;refine Stop.out ?_));refine⟨?_⟩;refine q4k rfl _ rfl (ndC (newN kind kids) (.slice none 0 0) ka kc) rfl (by rw[Hcs.out];rfl) ?_;rw[<-HW.out]
 (try simp only[psm])
 go_wp2_with (first|(at_builtin;refine q3b (by rfl) _ _ (by rfl) base v N _ (by rw[Hv.out];rfl) oW hN w.heap.size _ rfl Hone.out (by rfl) hnew hbW _ rfl ?_;intro g cap w5 hO5 hgrow hgb hl5;have c5:=(HK.out w5 hgrow 0 _ rfl).1;have c5f:=(HK.out w5 hgrow 0 _ rfl).2));obtain⟨tw6,tf6⟩:=HS.out g cap w5 hO5 hgrow hgb;have hgg:=(hO5.lt g rfl).1;clear c5 c5f hO5 hgrow HS HK hnew oW hbW HW BW c0 Hone Hcs hl5 hgb
 go_loopw [8] (fun x w'=>∃i:Nat,i<=n/\x=.int .i64 i/\TW tb base (addK T N kind kids i) (N+1) N (.slice (some ⟨g,0,none⟩) (N+1) cap) vr (fun k=>S k\/P k) w'/\TF tb v (.slice (some ⟨g,0,none⟩) (N+1) cap) S S w w') (fun x _=>n-(intOf x).toNat)
 case atStart=>exact⟨0,by omega,rfl,tw6,tf6⟩
 case round=>
  clear tw6 tf6;obtain⟨i,hi,rfl,tw,tf⟩:=hrel;by_cases hlt:i<n
  ·have hlt':(i:Int)<n:=by omega
   obtain⟨k,hk1⟩:∃k,kids[i]?=some k:=⟨kids[i]'(by have:=Hn.out;omega),List.getElem?_eq_getElem _⟩;have hkN:=hk k (List.mem_of_getElem? hk1);have hkN':(k:Int)<N+1:=by omega
   obtain⟨kb,ko,ek,ck⟩:=Hil.out wr (fun q hq=>tf.k q (HP.out q hq).1 (HP.out q hq).2.1 (HP.out q hq).2.2) i (by have:=Hn.out;omega);simp only[List.getD_eq_getElem?_getD,hk1,Option.getD_some]at ck;have hc0:=(tw.c 0 _ rfl).1;obtain⟨d3,f3⟩:(∃u,wr.cell? ⟨g,k*5+3,none⟩=some (.int .i64 u))/\wr.frozen? ⟨g,k*5+3,none⟩=false:=by
    obtain⟨m',o1',_⟩:=tw.o;refine⟨⟨(addK T N kind kids i k).up,?_⟩,o1'.frozenAt _⟩;rw[o1'.cellAt _ (by omega),q2q (q2V _ _) k 3 (by omega) (by omega)];rfl
   obtain⟨u3,d3⟩:=d3;have tw7:=tw.poke (T':=addU T N kind kids i k) htb k 3 (by omega) (by omega) (.int .i64 (N:Int)) (fun m' j _=>by
    unfold addU ndL;by_cases e:j=k
    ·subst e;simp only[if_true];rfl
    ·simp only[e,if_false]) (fun j _=>by unfold addU;split<;>exact⟨rfl,rfl,rfl⟩)
   have tf7:=tf.poke (show tb<=g by omega) (k*5+3) (.int .i64 (N:Int));obtain⟨w7,h7⟩:=nam (wr.setCell ⟨g,k*5+3,none⟩ (.int .i64 (N:Int)));rw[<-h7]at tw7 tf7;have ck7:=(Hil.out w7 (fun q hq=>tf7.k q (HP.out q hq).1 (HP.out q hq).2.1 (HP.out q hq).2.2)) i (by have:=Hn.out;omega);obtain⟨kb7,ko7,ek7,ck7⟩:=ck7;simp only[List.getD_eq_getElem?_getD,hk1,Option.getD_some]at ck7;rw[ek]at ek7;cases ek7;subst ek;have hc7:=(tw7.c 0 _ rfl).1;obtain⟨d4,f4⟩:(∃u,w7.cell? ⟨g,k*5+4,none⟩=some (.int .i64 u))/\w7.frozen? ⟨g,k*5+4,none⟩=false:=by
    obtain⟨m',o1',_⟩:=tw7.o;refine⟨⟨(addU T N kind kids i k k).at_,?_⟩,o1'.frozenAt _⟩;rw[o1'.cellAt _ (by omega),q2q (q2V _ _) k 4 (by omega) (by omega)];rfl
   obtain⟨u4,d4⟩:=d4;have tw8:=tw7.poke (T':=addK T N kind kids (i+1)) htb k 4 (by omega) (by omega) (.int .i64 (i:Int)) (fun m' j _=>by
    unfold ndL;rw[q7D hd hk1 hkN];by_cases e:j=k
    ·subst e;simp only[if_true];rfl
    ·simp only[e,if_false]) (fun j _=>by
    rw[q7D hd hk1 hkN];split<;>exact⟨rfl,rfl,rfl⟩)
   have tf8:=tf7.poke (show tb<=g by omega) (k*5+4) (.int .i64 (i:Int));have HTF8:=hyd2 tw8 tf8;have H7:=hyd h7;clear tw tf tw7 tf7 tw8 tf8 h7;go_wp2_with fail;refine wp_region_still_tail 11 (by kernel_rfl) (by kernel_rfl) ?_;simp only[List.take_succ_cons,List.take_zero,List.drop_succ_cons,List.drop_zero];change wpStill _ _ wr.drew (fun a'=>wpList _ _ _ _ a' wr.drew) _ _
   repeat still_step
   refine wpStill_nil ?_;go_wp2_with fail;rw[<-H7.out];clear hc0 ck d3 f3;refine wp_region_still_tail 11 (by kernel_rfl) (by kernel_rfl) ?_;simp only[List.take_succ_cons,List.take_zero,List.drop_succ_cons,List.drop_zero];change wpStill _ _ w7.drew.drew (fun a'=>wpList _ _ _ _ a' w7.drew.drew) _ _
   repeat still_step
   refine wpStill_nil ?_;go_wp2_with fail;go_roundw
   case rel=>exact⟨i+1,by omega,by go_num,HTF8.out.1.below (Below.refl _ _).drew.drew,HTF8.out.2.trans (TF.of _ _ (Nat.le_of_lt HTF8.out.1.c.lt) (Below.refl _ _).drew.drew)⟩
   case measure=>simp[intOf];omega
  ·have hge:¬(i:Int)<n:=by omega
   have hin:i=n:=by omega
   subst hin;go_wp2_with fail;go_ret;rw[Hn.out,y2d]at tw;exact⟨rfl,_,tw,tf⟩
def hsR (Ts:Nat->Nat->Nd) (ti nd:Nat->Nat) (p b:Nat):Bool:=(Ts (ti p) (nd p)).inn b
theorem y1f (gb P R:Nat) (tr:Nat->Nat) (Ts:Nat->Nat->Nd) (Ns ti nd:Nat->Nat) (b:Nat) (w:World) (hP:P<=1000000) (hR:R<=1000000) (hNs:∀r,r<R->Ns r<=1000000) (hG:GR gb P R tr Ts Ns ti nd w) (hb:b<256):
  Calls Tryz.prog 54 #[.pointer (some ⟨gb,0,none⟩),.int .i64 b] w fun e w'=>e=.returned (.int .i64 (least (Kq (hsR Ts ti nd) P) b))/\Below w.heap.size w w':=by
 have HTk:Hid (∀(p c:Nat) (w':World),p<P->c<256->Below w.heap.size w w'->Calls Tryz.prog 116 #[.pointer (some ⟨gb,0,none⟩),.int .i64 p,.int .i64 c] w' fun e w''=>e=.returned (.bool (hsR Ts ti nd p c))/\Below w'.heap.size w' w''):=fun p c w' h1 h2 h=>q6N gb P R tr Ts Ns ti nd p c w' hP hR hNs (hG.below h) h1 h2
 have HC1:Hid (∃a x,∀w',Below w.heap.size w w'->w'.cell? ⟨gb,1,none⟩=some (.slice a P x)):=by
  obtain⟨a,x,c,_⟩:=hG.p;exact⟨a,x,fun w' h=>by rw[h.cell (p:=⟨gb,1,none⟩) (World.block_lt_of_cell? w _ c)];exact c⟩
 obtain⟨a1,x1,hc1⟩:=HC1.out;have HCl:=hyd hc1;have hP':(P:Int)<=1000000:=by omega
 have hb':(b:Int)<256:=by omega
 obtain⟨hs,hhs⟩:=nam (hsR Ts ti nd);rw[<-hhs]at HTk ⊢;have HE:=hyd (q3D hs P 256);clear HC1 hc1 hG hNs hhs;go_enter Tryz.func54,Tryz.ntmps54;go_wp2_with fail
 go_loopw [5] (fun x w'=>∃a:Nat,a<=b/\x=.int .i64 a/\Hid (∀c,c<a->Kq hs P c b=false)/\Below w.heap.size w w') (fun x _=>b-(intOf x).toNat)
 case atStart=>exact⟨0,by omega,rfl,fun c hc=>by omega,Below.refl _ _⟩
 case round=>
  obtain⟨a,ha,rfl,HJ,B⟩:=hrel;by_cases hlt:a<b
  ·have hlt':(a:Int)<b:=by omega
   go_wp2_with fail
   go_loopw [6,7] (fun s x w'=>∃(p:Nat) (S:Bool),p<=P/\x=.int .i64 p/\s=.bool S/\Hid (S=(List.range p).all fun q=>hs q a==hs q b)/\Below w.heap.size w w') (fun s x _=>P-(intOf x).toNat)
   case atStart=>exact⟨0,true,by omega,rfl,rfl,rfl,B⟩
   case round=>
    clear B;obtain⟨p,S,hp,rfl,rfl,HS,B⟩:=hrel;have c1:=HCl.out wr B;by_cases hpl:p<P
    ·have hpl':(p:Int)<P:=by omega
     cases S
     ·-- parted: the loop ends
      have HF:Hid (∀c,c<a+1->Kq hs P c b=false):=fun c hc=>by
       by_cases e:c=a
       ·subst e;cases hk:Kq hs P c b
        ·rfl
        ·have h1:=(q2B hs P c b).1 hk;have h2:(List.range p).all (fun q=>hs q c==hs q b)=true:=by
          rw[List.all_eq_true];intro q hq;rw[h1 q (by have:=List.mem_range.1 hq;omega)];simp
         have h3:=HS.out;rw[h2]at h3;cases h3
       ·exact HJ.out c (by omega)
      clear HJ HS;go_wp2_with fail;go_roundw
      case rel=>exact⟨a+1,by omega,by go_num,HF,B⟩
      case measure=>simp[intOf];omega
     ·have HX1:=hyd (HTk.out p a wr hpl (by omega) B);have HX2:Hid (∀w',Below w.heap.size w w'->Calls Tryz.prog 116 #[.pointer (some ⟨gb,0,none⟩),.int .i64 p,.int .i64 b] w' fun e w''=>e=.returned (.bool (hs p b))/\Below w'.heap.size w' w''):=fun w' h=>HTk.out p b w' hpl hb h
      have HS2:Hid ((hs p a==hs p b)=(List.range (p+1)).all fun q=>hs q a==hs q b):=by
       show _=_;rw[List.range_succ,List.all_append,<-HS.out];simp
      obtain⟨X,hX⟩:=nam (hs p a);obtain⟨Y,hY⟩:=nam (hs p b);rw[<-hX,<-hY]at HS2;rw[<-hX]at HX1;rw[<-hY]at HX2;clear hX hY HS;go_wp2_with fail;refine HX1.out.mono ?_;rintro e w3 ⟨rfl,B3⟩;have Bw3:=B.trans (B3.mono B.size);have HX3:=hyd (HX2.out w3 Bw3);clear HX1 HX2 B3 c1;go_wp2_with fail;refine HX3.out.mono ?_;rintro e w4 ⟨rfl,B4⟩;have Bw4:=Bw3.trans (B4.mono Bw3.size);clear HX3 B4;cases X<;>cases Y<;>(go_wp2_with fail;go_roundw;(case rel=>exact⟨p+1,_,by omega,by go_num,rfl,HS2,Bw4⟩);(case measure=>simp[intOf];omega))
    ·have hge:¬(p:Int)<P:=by omega
     have hpP:p=P:=by omega
     subst hpP;have HK:Hid (Kq hs p a b=S):=by show _=_;rw[HS.out];rfl
     cases S
     ·have HF:Hid (∀c,c<a+1->Kq hs p c b=false):=fun c hc=>by
       by_cases e:c=a
       ·subst e;exact HK.out
       ·exact HJ.out c (by omega)
      clear HJ HS HK;go_wp2_with fail;go_roundw
      case rel=>exact⟨a+1,by omega,by go_num,HF,B⟩
      case measure=>simp[intOf];omega
     ·have HR:Hid ((least (Kq hs p) b:Int)=a):=by
       show _=_;rw[least_eq HK.out HJ.out (least_like HE.out hb)]
      clear HJ HS HK;go_wp2_with fail;go_ret;exact⟨q0l HR.out.symm,B⟩
  ·have hge:¬(a:Int)<b:=by omega
   have hab:a=b:=by omega
   subst hab;have HR:Hid ((least (Kq hs P) a:Int)=a):=by
    show _=_;have h1:=least_le (Kq hs P) a;by_cases e:least (Kq hs P) a=a
    ·rw[e]
    ·have h2:=HJ.out (least (Kq hs P) a) (by omega);rw[least_like HE.out hb]at h2;cases h2
   clear HJ;go_wp2_with fail;go_ret;exact⟨q0l HR.out.symm,B⟩
end Go.Proofs.YtoaaklhpmhjhkaaGreat
namespace Go.Proofs.YtoaaklhpmhjhkaaGreat
open Bm
namespace Rx
theorem fst_add:∀(e:Rx) (o p d:Nat),e.fst (o+d) (p+d)=e.fst o p
 |eps,_,_,_=>rfl
 |lit _,o,p,d=>by
  simp only[fst];by_cases h:p=o
  ·subst h;simp only[beq_self_eq_true]
  ·rw[show(p+d==o+d)=false from beq_eq_false_iff_ne.2 (by omega),show(p==o)=false from beq_eq_false_iff_ne.2 h]
 |cat a b,o,p,d=>by simp only[fst];rw[fst_add a,show o+d+a.sz=(o+a.sz)+d by omega,fst_add b]
 |alt a b,o,p,d=>by simp only[fst];rw[fst_add a,show o+d+a.sz=(o+a.sz)+d by omega,fst_add b]
 |star a,o,p,d=>fst_add a o p d
 |plus a,o,p,d=>fst_add a o p d
 |opt a,o,p,d=>fst_add a o p d
theorem lst_add:∀(e:Rx) (o p d:Nat),e.lst (o+d) (p+d)=e.lst o p
 |eps,_,_,_=>rfl
 |lit _,o,p,d=>by
  simp only[lst];by_cases h:p=o
  ·subst h;simp only[beq_self_eq_true]
  ·rw[show(p+d==o+d)=false from beq_eq_false_iff_ne.2 (by omega),show(p==o)=false from beq_eq_false_iff_ne.2 h]
 |cat a b,o,p,d=>by simp only[lst];rw[lst_add a,show o+d+a.sz=(o+a.sz)+d by omega,lst_add b]
 |alt a b,o,p,d=>by simp only[lst];rw[lst_add a,show o+d+a.sz=(o+a.sz)+d by omega,lst_add b]
 |star a,o,p,d=>lst_add a o p d
 |plus a,o,p,d=>lst_add a o p d
 |opt a,o,p,d=>lst_add a o p d
theorem fol_add:∀(e:Rx) (o p q d:Nat),e.fol (o+d) (p+d) (q+d)=e.fol o p q
 |eps,_,_,_,_=>rfl
 |lit _,_,_,_,_=>rfl
 |cat a b,o,p,q,d=>by simp only[fol];rw[fol_add a,show o+d+a.sz=(o+a.sz)+d by omega,fol_add b,lst_add,fst_add]
 |alt a b,o,p,q,d=>by simp only[fol];rw[fol_add a,show o+d+a.sz=(o+a.sz)+d by omega,fol_add b]
 |star a,o,p,q,d=>by simp only[fol];rw[fol_add a,lst_add,fst_add]
 |plus a,o,p,q,d=>by simp only[fol];rw[fol_add a,lst_add,fst_add]
 |opt a,o,p,q,d=>fol_add a o p q d
theorem has_add:∀(e:Rx) (o p c d:Nat),e.has (o+d) (p+d) c=e.has o p c
 |eps,_,_,_,_=>rfl
 |lit _,o,p,c,d=>by
  simp only[has];by_cases h:p=o
  ·subst h;simp only[beq_self_eq_true]
  ·rw[show(p+d==o+d)=false from beq_eq_false_iff_ne.2 (by omega),show(p==o)=false from beq_eq_false_iff_ne.2 h]
 |cat a b,o,p,c,d=>by simp only[has];rw[has_add a,show o+d+a.sz=(o+a.sz)+d by omega,has_add b]
 |alt a b,o,p,c,d=>by simp only[has];rw[has_add a,show o+d+a.sz=(o+a.sz)+d by omega,has_add b]
 |star a,o,p,c,d=>has_add a o p c d
 |plus a,o,p,c,d=>has_add a o p c d
 |opt a,o,p,c,d=>has_add a o p c d
end Rx
theorem y2Y (T:Nat->Nd):∀(N j:Nat),j<clN T N->∃m,m<N/\(T m).kind=0/\clN T m=j
 |0,j,h=>by simp[clN]at h
 |N+1,j,h=>by
  by_cases e:j<clN T N
  ·obtain⟨m,h1,h2,h3⟩:=y2Y T N j e;exact⟨m,by omega,h2,h3⟩
  ·simp only[clN]at h;by_cases k:(T N).kind=0
   ·rw[if_pos k]at h;exact⟨N,by omega,k,by omega⟩
   ·rw[if_neg k]at h;omega
structure Gm (R:Nat) (Ts:Nat->Nat->Nd) (Ns:Nat->Nat) (es:Nat->Rx) (ti nd:Nat->Nat):Prop where
 t:∀r,r<R->Tre (Ts r) (Ns r)/\1<=Ns r/\Good (Ts r) (Ns r) 0 (Ns r-1) (es r)
 p:∀p,p<netN es R->ti p<R/\nd p<Ns (ti p)/\(Ts (ti p) (nd p)).kind=0/\p=netN es (ti p)+clN (Ts (ti p)) (nd p)
def jnR (T:Nat->Nd) (N:Nat) (ix:Nat->Nat) (h:Nat->Bool) (q:Nat):Bool:=(List.range N).any fun m=>decide ((T m).kind=0)&&h m&&decide (q=ix m)
variable {l : List (Nat → Bool)}{t0 : List Int}{N P R b gb q s : Nat}{F : Nat → Bool}{to : Nat → Int}{Ns ix nd ti : Nat → Nat}{E : Nat → Nat → Bool}{T : Nat → Nd}{w w' : World}
theorem q1X {h:Nat->Bool}:jnR T N ix h q=true<->∃m,m<N/\(T m).kind=0/\h m=true/\q=ix m:=by
 unfold jnR;simp only[List.any_eq_true,List.mem_range,Bool.and_eq_true,decide_eq_true_eq];constructor
 ·rintro ⟨m,h1,⟨h2,h3⟩,h4⟩;exact⟨m,h1,h2,h3,h4⟩
 ·rintro ⟨m,h1,h2,h3,h4⟩;exact⟨m,h1,⟨h2,h3⟩,h4⟩
def emb (P q:Nat):Nat:=if q<P then q else 96+(q-P)
def ixR (es:Nat->Rx) (Ts:Nat->Nat->Nd) (r m:Nat):Nat:=netN es r+clN (Ts r) m
def bhS (T:Nat->Nd) (N:Nat) (ix:Nat->Nat) (P r n:Nat) (q:Nat):Bool:=jnR T N ix (fun m=>bhT T N n (some m)) q || (decide (q=P+r)&&bhT T N n none)
def nxR (es:Nat->Rx) (Ts:Nat->Nat->Nd) (Ns ti nd:Nat->Nat) (P p q:Nat):Bool:=bhS (Ts (ti p)) (Ns (ti p)) (ixR es Ts (ti p)) P (ti p) (nd p) q
structure TreeIs (T:Nat->Nd) (N:Nat) (e:Rx):Prop where
 c:clN T N=e.sz
 n:nlT T (N-1)=e.nul
 f:∀m,(T m).kind=0->bgT T (N-1) m=e.fst 0 (clN T m)
 b:∀m x,m<N->(T m).kind=0->(T x).kind=0->bhT T N m (some x)=e.fol 0 (clN T m) (clN T x)
 b0:∀m,m<N->(T m).kind=0->bhT T N m none=e.lst 0 (clN T m)
 h:∀m b,m<N->(T m).kind=0->b<256->(T m).inn b=e.has 0 (clN T m) b
variable {e : Rx}
theorem q9e (ht:Tre T N) (hN:1<=N) (g:Good T N 0 (N-1) e):TreeIs T N e:=by
 obtain⟨k,rfl⟩:∃k,N=k+1:=⟨N-1,by omega⟩;simp only[Nat.add_sub_cancel]at g ⊢;obtain⟨h1,h2,h3,h4,h5⟩:=y1g ht.w ht.u g;have hE:=q2r ht.w ht.u;have hup:(T k).up<0:=by
  have:=ht.u k (by omega);omega
 have hr:∀q,bhT T (k+1) k q=(q==none):=fun q=>hE.bhR k q (by omega) hup
 refine⟨h1,by simpa using h2,fun m hm=>by simpa using h3 m hm,fun m x hm hk hx=>?_,fun m hm hk=>?_,fun m b hm hk hb=>h5 m b (by omega) hk hb⟩
 ·rw[h4 m (some x) (by omega) hk (fun y hy=>by cases hy;exact hx),hr];simp
 ·rw[h4 m none (by omega) hk (fun y hy=>by cases hy),hr];simp
variable {Ts : Nat → Nat → Nd}{es : Nat → Rx}
theorem Gm.tree (h:Gm R Ts Ns es ti nd) {r:Nat} (hr:r<R):TreeIs (Ts r) (Ns r) (es r):=by
 obtain⟨h1,h2,h3⟩:=h.t r hr;exact q9e h1 h2 h3
theorem Gm.ixlt (h:Gm R Ts Ns es ti nd) {r m:Nat} (hr:r<R) (hm:m<Ns r) (hk:(Ts r m).kind=0):netN es r<=ixR es Ts r m/\ixR es Ts r m<netN es (r+1):=by
 have hc:=(h.tree hr).c;have:=q4S hk hm;unfold ixR;simp only[netN];omega
theorem q5v (h:Gm R Ts Ns es ti nd) {p b:Nat} (hp:p<netN es R) (hb:b<256):hsR Ts ti nd p b=netH es R p b:=by
 obtain⟨h1,h2,h3,h4⟩:=h.p p hp;have hx:=h.ixlt h1 h2 h3;unfold ixR at hx;rw[<-h4]at hx;rw[y0q es R (ti p) p b h1 hx.1 hx.2];unfold hsR;rw[(h.tree h1).h _ b h2 h3 hb];have:=Rx.has_add (es (ti p)) 0 (clN (Ts (ti p)) (nd p)) b (netN es (ti p));rw[Nat.zero_add,Nat.add_comm (clN _ _),<-h4]at this;exact this.symm
theorem y0H (h:Gm R Ts Ns es ti nd) {p q:Nat} (hp:p<netN es R) (_hq:q<netN es R+R) (hP:netN es R<=96):nxR es Ts Ns ti nd (netN es R) p q=netB es R p (emb (netN es R) q):=by
 obtain⟨h1,h2,h3,h4⟩:=h.p p hp;obtain⟨r,hr⟩:=nam (ti p);obtain⟨n,hn⟩:∃n,n=nd p:=⟨_,rfl⟩;unfold nxR;rw[<-hr]at h1 h2 h3 h4 ⊢;rw[<-hn]at h2 h3 h4 ⊢;have hx:=h.ixlt h1 h2 h3;unfold ixR at hx;rw[<-h4]at hx;have hT:=h.tree h1;have hup:netN es (r+1)<=netN es R:=q0M es h1;rw[q4E es R r p _ h1 hx.1 hx.2];have hfol:∀y,(es r).fol (netN es r) p (y+netN es r)=(es r).fol 0 (clN (Ts r) n) y:=fun y=>by
  have:=Rx.fol_add (es r) 0 (clN (Ts r) n) y (netN es r);rw[Nat.zero_add,Nat.add_comm (clN _ _),<-h4]at this;exact this
 have hlst:(es r).lst (netN es r) p=(es r).lst 0 (clN (Ts r) n):=by
  have:=Rx.lst_add (es r) 0 (clN (Ts r) n) (netN es r);rw[Nat.zero_add,Nat.add_comm (clN _ _),<-h4]at this;exact this
 have hnet:netN es (r+1)=netN es r+(es r).sz:=rfl;unfold bhS emb;by_cases hqP:q<netN es R
 ·rw[if_pos hqP,show decide (q=netN es R+r)=false by simp;omega,show decide (q=96+r)=false by simp;omega];simp only[Bool.false_and,Bool.or_false];rw[Bool.eq_iff_iff,q1X];constructor
  ·rintro ⟨m,m1,m2,m3,m4⟩;rw[hT.b n m h2 h3 m2]at m3;have:=hfol (clN (Ts r) m);unfold ixR at m4;rw[m4,Nat.add_comm (netN es r),this];exact m3
  ·intro hf;obtain⟨f1,f2,f3,f4⟩:=Rx.fol_rng _ _ _ _ hf;obtain⟨m,m1,m2,m3⟩:=y2Y (Ts r) (Ns r) (q-netN es r) (by rw[hT.c];omega);refine⟨m,m1,m2,?_,by unfold ixR;omega⟩;rw[hT.b n m h2 h3 m2,m3,<-hfol (q-netN es r),Nat.sub_add_cancel f3];exact hf
 ·rw[if_neg hqP];have j0:jnR (Ts r) (Ns r) (ixR es Ts r) (fun m=>bhT (Ts r) (Ns r) n (some m)) q=false:=by
   rw[Bool.eq_false_iff];intro hj;obtain⟨m,m1,m2,_,m4⟩:=q1X.1 hj;have:=(h.ixlt h1 m1 m2).2;omega
  have f0:(es r).fol (netN es r) p (96+(q-netN es R))=false:=Rx.fol_lt (by omega);rw[j0,f0,hT.b0 n h2 h3,hlst,Bool.false_or,Bool.false_or];congr 1;by_cases e:q=netN es R+r
  ·simp[e]
  ·rw[show decide (q=netN es R+r)=false by simp[e],show decide (96+(q-netN es R)=96+r)=false by simp;omega]
def atS (es:Nat->Rx) (Ts:Nat->Nat->Nd) (Ns:Nat->Nat) (P R q:Nat):Bool:=(List.range R).any fun r=>jnR (Ts r) (Ns r) (ixR es Ts r) (bgT (Ts r) (Ns r-1)) q || (decide (q=P+r)&&nlT (Ts r) (Ns r-1))
theorem y3L (h:Gm R Ts Ns es ti nd) {q:Nat} (_hq:q<netN es R+R) (hP:netN es R<=96):atS es Ts Ns (netN es R) R q=netF es R (emb (netN es R) q):=by
 have hfst:∀r y,(es r).fst (netN es r) (y+netN es r)=(es r).fst 0 y:=fun r y=>by
  have:=Rx.fst_add (es r) 0 y (netN es r);rw[Nat.zero_add]at this;exact this
 unfold emb;rw[Bool.eq_iff_iff];unfold atS;simp only[List.any_eq_true,List.mem_range,Bool.or_eq_true,Bool.and_eq_true,decide_eq_true_eq];by_cases hqP:q<netN es R
 ·rw[if_pos hqP,q2G es R q (by omega)];constructor
  ·rintro ⟨r,r1,hj|⟨he,_⟩⟩
   ·obtain⟨m,m1,m2,m3,m4⟩:=q1X.1 hj;rw[(h.tree r1).f m m2]at m3;refine⟨r,r1,?_⟩;unfold ixR at m4;rw[m4,Nat.add_comm,hfst];exact m3
   ·omega
  ·rintro ⟨r,r1,hf⟩;obtain⟨f1,f2⟩:=Rx.fst_rng _ _ _ hf;obtain⟨m,m1,m2,m3⟩:=y2Y (Ts r) (Ns r) (q-netN es r) (by rw[(h.tree r1).c];omega);refine⟨r,r1,Or.inl (q1X.2 ⟨m,m1,m2,?_,by unfold ixR;omega⟩)⟩;rw[(h.tree r1).f m m2,m3,<-hfst,Nat.sub_add_cancel f1];exact hf
 ·rw[if_neg hqP,q4D];simp only[Bool.and_eq_true,decide_eq_true_eq];constructor
  ·rintro ⟨r,r1,hj|⟨he,hn⟩⟩
   ·obtain⟨m,m1,m2,m3,m4⟩:=q1X.1 hj;have:=(h.ixlt r1 m1 m2).2;have:=q0M es (show r+1<=R from r1);omega
   ·rw[(h.tree r1).n]at hn;have:q-netN es R=r:=by omega
    rw[this];exact⟨r1,hn⟩
  ·rintro ⟨r1,hn⟩;exact⟨q-netN es R,r1,Or.inr ⟨by omega,by rw[(h.tree r1).n];exact hn⟩⟩
def Sup (P R:Nat) (g:Nat->Bool):Prop:=∀q,q<104->g q=true->q<P\/(96<=q/\q<96+R)
def em (P:Nat) (g:Nat->Bool) (q:Nat):Bool:=g (emb P q)
theorem q8X (g:Nat->Bool) {q:Nat} (h:q<P):em P g q=g q:=by unfold em emb;rw[if_pos h]
theorem q8r (P:Nat) (g:Nat->Bool) (r:Nat):em P g (P+r)=g (96+r):=by unfold em emb;rw[if_neg (by omega)];congr 1;omega
theorem y2U {g h:Nat->Bool} (hP:P<=96) (hR:R<=8) (hg:Sup P R g) (hh:Sup P R h):(∀q,q<P+R->em P g q=em P h q)<->sameB g h 104=true:=by
 rw[q1x];constructor
 ·intro e q hq;by_cases h1:q<P
  ·have:=e q (by omega)
   rwa [q8X g h1,q8X h h1]at this
  ·by_cases h2:96<=q/\q<96+R
   ·have:=e (P+(q-96)) (by omega);rw[q8r,q8r,show 96+(q-96)=q by omega]at this;exact this
   ·cases a:g q
    ·cases b:h q
     ·rfl
     ·have:=hh q hq b;omega
    ·have:=hg q hq a;omega
 ·intro e q hq;unfold em emb;split
  ·exact e q (by omega)
  ·exact e _ (by omega)
theorem q4f {g h:Nat->Bool} (hP:P<=96) (hR:R<=8) (hg:Sup P R g) (hh:Sup P R h):keyS (em P g) (P+R)=keyS (em P h) (P+R)<->sameB g h 104=true:=by
 rw[y1D];exact y2U hP hR hg hh
theorem q5O (P R:Nat):Sup P R noB:=fun q _ h=>by cases h
theorem q9S (es:Nat->Rx) (R:Nat) (_hP:netN es R<=96):Sup (netN es R) R (netF es R):=fun q hq h=>by
 by_cases h1:q<96
 ·obtain⟨k,hk,hf⟩:=(q2G es R q h1).1 h;have h2:=(Rx.fst_rng _ _ _ hf).2;have h3:=q0M es (show k+1<=R from hk);simp only[netN]at h3;exact Or.inl (by omega)
 ·have e:=q4D es R (q-96);rw[show 96+(q-96)=q by omega,h]at e;have:q-96<R:=by
   have:=e.symm;simp only[Bool.and_eq_true,decide_eq_true_eq]at this;exact this.1
  exact Or.inr (by omega)
theorem y1h (es:Nat->Rx) (R:Nat) (_hP:netN es R<=96) (f:Nat->Bool) (b:Nat):Sup (netN es R) R (aftN es R f b):=fun q hq h=>by
 unfold aftN aftTo at h;obtain⟨p,hp,h1⟩:=List.any_eq_true.1 h;have hp':=List.mem_range.1 hp;simp only[Bool.and_eq_true]at h1;obtain⟨k,k1,k2,k3⟩:=q8G es R p hp';have h2:=h1.2;rw[q4E es R k p q k1 k2 k3]at h2;simp only[Bool.or_eq_true,Bool.and_eq_true,decide_eq_true_eq]at h2;rcases h2 with h2|⟨h2,_⟩
 ·have h3:=(Rx.fol_rng _ _ _ _ h2).2.2.2;have h4:=q0M es (show k+1<=R from k1);simp only[netN]at h4;exact Or.inl (by omega)
 ·exact Or.inr (by omega)
theorem y2V (h:Gm R Ts Ns es ti nd) (hP:netN es R<=96) (g:Nat->Bool) {b q:Nat} (hb:b<256) (hq:q<netN es R+R):
  aftTo (hsR Ts ti nd) (nxR es Ts Ns ti nd (netN es R)) (em (netN es R) g) b (netN es R) q=em (netN es R) (aftN es R g b) q:=by
 unfold em aftN aftTo;rw[Bool.eq_iff_iff];simp only[List.any_eq_true,List.mem_range];constructor
 ·rintro ⟨p,hp,h1⟩;refine⟨p,hp,?_⟩;rw[q5v h hp hb,y0H h hp hq hP]at h1;rw[show emb (netN es R) p=p by unfold emb;rw[if_pos hp]]at h1;exact h1
 ·rintro ⟨p,hp,h1⟩;refine⟨p,hp,?_⟩;rw[q5v h hp hb,y0H h hp hq hP,show emb (netN es R) p=p by unfold emb;rw[if_pos hp]];exact h1
theorem q9P (h:Gm R Ts Ns es ti nd) {b:Nat} (hb:b<256):least (Kq (hsR Ts ti nd) (netN es R)) b=least (Kq (netH es R) (netN es R)) b:=by
 refine least_congr (n:=256) (q3D _ _ _) (q3D _ _ _) (fun a c ha hc=>?_) hb;rw[q2B,q2B];constructor
 ·intro e p hp;rw[<-q5v h hp ha,<-q5v h hp hc];exact e p hp
 ·intro e p hp;rw[q5v h hp ha,q5v h hp hc];exact e p hp
theorem q5J {f:Nat->Bool}:∀(u d r:Nat),(∀x,r+u<=x->x<r+u+d->f x=false)->vdF f (u+d) r=vdF f u r
 |0,0,r,_=>rfl
 |0,d+1,r,h=>by
  have:=q5J 0 d (r+1) (fun x h1 h2=>h x (by omega) (by omega));rw[Nat.zero_add]at this ⊢;show(if f r then (r:Int) else vdF f d (r+1))=-1;rw[h r (by omega) (by omega),if_neg (by simp),this];rfl
 |u+1,d,r,h=>by
  rw[show u+1+d=(u+d)+1 by omega,vdF,vdF];split
  ·rfl
  ·exact q5J u d (r+1) (fun x h1 h2=>h x (by omega) (by omega))
theorem y2r {g:Nat->Bool} (hP:P<=96) (hR:R<=8) (hg:Sup P R g):vdF (fun r=>em P g (P+r)) R 0=vdF (fun r=>g (96+r)) 8 0:=by
 have e:=funext (fun r=>q8r P g r);rw[e];obtain⟨d,hd⟩:∃d,8=R+d:=⟨8-R,by omega⟩;rw[hd]
 symm
 refine q5J R d 0 (fun x h1 h2=>?_);cases a:g (96+x)
 ·rfl
 ·have:=hg (96+x) (by omega) a;omega
theorem y1R {g:Nat->Bool} (hP:P<=96) (hR:R<=8) (hg:Sup P R g) (hl:∀h∈l,Sup P R h) (hne:sameB g noB 104=false):
  (numR l g<l.length/\fndN (fun i=>keyS (em P (l.getD i noB)) (P+R)) (keyS (em P g) (P+R)) l.length=numR l g/\numL l g=l)\/(numR l g=l.length/\fndN (fun i=>keyS (em P (l.getD i noB)) (P+R)) (keyS (em P g) (P+R)) l.length=-1/\numL l g=l++[g]):=by
 have hk:∀(i:Nat) (h:Nat->Bool),l[i]?=some h->(keyS (em P (l.getD i noB)) (P+R)=keyS (em P g) (P+R)<->sameB h g 104=true):=fun i h hi=>by
  rw[List.getD_eq_getElem?_getD,hi,Option.getD_some];exact q4f hP hR (hl h (List.mem_of_getElem? hi)) hg
 unfold numR numL;rw[if_neg (by rw[hne];simp),if_neg (by rw[hne];simp)];by_cases hf:l.findIdx (fun h=>sameB h g 104)<l.length
 ·rw[if_pos hf];refine Or.inl ⟨by omega,?_,rfl⟩;have h1:=List.findIdx_getElem (w:=hf) (xs:=l) (p:=fun h=>sameB h g 104);refine q8R hf ((hk _ _ (List.getElem?_eq_getElem hf)).2 h1) (fun j hj e=>?_);have hjl:j<l.length:=by omega
  have h2:=(hk j _ (List.getElem?_eq_getElem hjl)).1 e;have h3:=List.not_of_lt_findIdx hj;rw[h2]at h3;exact absurd h3 (by simp)
 ·rw[if_neg hf];have h1:l.findIdx (fun h=>sameB h g 104)=l.length:=by
   have:=List.findIdx_le_length (xs:=l) (p:=fun h=>sameB h g 104);omega
  refine Or.inr ⟨by omega,q7r (fun j hj e=>?_),rfl⟩;have h2:=(hk j _ (List.getElem?_eq_getElem hj)).1 e;have h3:=List.findIdx_eq_length.1 h1 _ (List.getElem_mem hj);rw[h2]at h3;cases h3
def Ov (A:(Nat->Bool)->Nat->Nat->Bool) (F:Nat->Bool) (ls:List Nat):Prop:=∃s k l t f b,Exp A F ls s k l t/\l[s]?=some f/\ls[k]?=some b/\200<=numR l (A f b)
def Gh (A:(Nat->Bool)->Nat->Nat->Bool) (F:Nat->Bool) (E:Nat->Nat->Bool) (s:Nat) (t0:List Int) (b:Nat) (l:List (Nat->Bool)) (to:Nat->Int):Prop:=
 (∃t,Exp A F (reps E 256) s (cnt E b) l t/\(∃u,t=t0++u)/\∀c,c<b->to c=t.getD (s*(reps E 256).length+idx E c) (-1))\/(200<l.length/\Ov A F (reps E 256))
theorem Gh.first {A:(Nat->Bool)->Nat->Nat->Bool}{t:List Int} (h:Exp A F (reps E 256) s 0 l t) (to:Nat->Int):Gh A F E s t 0 l to:=
 Or.inl ⟨t,h,⟨[],by simp⟩,fun c hc=>by omega⟩
theorem Gh.copy {A:(Nat->Bool)->Nat->Nat->Bool} (hE:Eqv E 256) (h:Gh A F E s t0 b l to) (hb:b<256) (hl:least E b<b):Gh A F E s t0 (b+1) l (fun c=>if c=b then to (least E b) else to c):=by
 rcases h with ⟨t,h1,h2,h3⟩|h
 ·refine Or.inl ⟨t,by rw[cnt_succ,if_neg (by omega),Nat.add_zero];exact h1,h2,fun c hc=>?_⟩;by_cases e:c=b
  ·subst e;simp only[if_true];rw[h3 _ hl];congr 2;have hi:=least_idem hE hb;rw[idx_rep hi];rfl
  ·simp only[e,if_false];exact h3 c (by omega)
 ·exact Or.inr h
theorem Gh.step {A:(Nat->Bool)->Nat->Nat->Bool}{g:Nat->Bool} (hE:Eqv E 256) (h:Gh A F E s t0 b l to) (hb:b<256) (hl:least E b=b) (hg:l[s]?=some g):Gh A F E s t0 (b+1) (numL l (A g b)) (fun c=>if c=b then numR l (A g b) else to c):=by
 rcases h with ⟨t,h1,⟨u,h2⟩,h3⟩|⟨h1,h2⟩
 ·have hk:=reps_get E 256 b hb hl;have hsz:=h1.size;by_cases hr:numR l (A g b)<200
  ·refine Or.inl ⟨t++[numR l (A g b)],by rw[cnt_succ,if_pos hl];exact h1.kind hg hk hr,⟨u++[numR l (A g b)],by rw[h2,List.append_assoc]⟩,fun c hc=>?_⟩;by_cases e:c=b
   ·subst e;simp only[if_true];rw[idx_rep hl,<-hsz.2.2.1];simp[List.getD_eq_getElem?_getD]
   ·simp only[e,if_false];rw[h3 c (by omega)];have hic:idx E c<cnt E b:=by
     have hle:=least_le E c;exact cnt_lt (least_idem hE (by omega)) (by omega)
    simp only[List.getD_eq_getElem?_getD];rw[List.getElem?_append_left (by omega)]
  ·refine Or.inr ⟨?_,s,_,l,t,g,b,h1,hg,hk,by omega⟩;have hlt:=q6h l (A g b);omega
 ·refine Or.inr ⟨?_,h2⟩;rcases q2F l (A g b)with h|h
  ·omega
  ·omega
theorem Gh.last {A:(Nat->Bool)->Nat->Nat->Bool} (h:Gh A F E s t0 256 l to) (hs:s<l.length):(200<l.length/\Ov A F (reps E 256))\/(l.length<=200/\∃t,Exp A F (reps E 256) (s+1) 0 l t/\(∃u,t=t0++u)/\∀c,c<256->to c=t.getD (s*(reps E 256).length+idx E c) (-1)):=by
 rcases h with ⟨t,h1,h2,h3⟩|h
 ·have e:cnt E 256=(reps E 256).length:=rfl;rw[e]at h1;exact Or.inr ⟨h1.size.2.1,t,Exp.set h1 hs,h2,h3⟩
 ·exact Or.inl h
open Go.RowKit
def NX (gb P R:Nat) (nx:Nat->Nat->Bool) (w:World):Prop:=∃a c,w.cell? ⟨gb,4,none⟩=some (.slice a P c)/\∀p,p<P->∃nb o ra rc,a=some ⟨nb,o,none⟩/\w.cell? ⟨nb,o+p,none⟩=some (.slice ra (P+R) rc)/\BR ra (nx p) (P+R) w
theorem NX.below {nx:Nat->Nat->Bool} (h:NX gb P R nx w) (hW:Below w.heap.size w w'):NX gb P R nx w':=by
 obtain⟨a,c,h0,h⟩:=h;refine⟨a,c,by rw[hW.cell (p:=⟨gb,4,none⟩) (World.block_lt_of_cell? w _ h0)];exact h0,fun p hp=>?_⟩;obtain⟨nb,o,ra,rc,e,c1,br⟩:=h p hp;exact⟨nb,o,ra,rc,e,by rw[hW.cell (p:=⟨nb,o+p,none⟩) (World.block_lt_of_cell? w _ c1)];exact c1,br.below hW⟩
theorem y0I (gb P R:Nat) (tr:Nat->Nat) (Ts:Nat->Nat->Nd) (Ns ti nd:Nat->Nat) (nx:Nat->Nat->Bool) (sa:Option Addr) (sc:Nat) (f:Nat->Bool) (b:Nat) (w:World) (hP:P<=1000) (hR:R<=1000) (hNs:∀r,r<R->Ns r<=1000000) (hG:GR gb P R tr Ts Ns ti nd w) (hX:NX gb P R nx w) (hS:BR sa f (P+R) w) (hb:b<256):
  Calls Tryz.prog 58 #[.pointer (some ⟨gb,0,none⟩),.slice sa (P+R) sc,.int .i64 b] w fun e w'=>e=.returned (.slice (some ⟨w.heap.size,0,none⟩) (P+R) (P+R))/\TC w.heap.size (bl (aftTo (hsR Ts ti nd) nx f b P) (P+R)) w'/\Below w.heap.size w w'/\w.heap.size+1<=w'.heap.size:=by
 have HNo:=hyd (q3s gb P R w hP hR hG.gl);have HTk:Hid (∀(p:Nat) (w':World),p<P->Below w.heap.size w w'->Calls Tryz.prog 116 #[.pointer (some ⟨gb,0,none⟩),.int .i64 p,.int .i64 b] w' fun e w''=>e=.returned (.bool (hsR Ts ti nd p b))/\Below w'.heap.size w' w''):=fun p w' h1 h=>q6N gb P R tr Ts Ns ti nd p b w' (by omega) (by omega) hNs (hG.below h) h1 hb
 obtain⟨a1,x1,hc1⟩:∃a x,∀w',Below w.heap.size w w'->w'.cell? ⟨gb,1,none⟩=some (.slice a P x):=by
  obtain⟨a,x,c,_⟩:=hG.p;exact⟨a,x,fun w' h=>by rw[h.cell (p:=⟨gb,1,none⟩) (World.block_lt_of_cell? w _ c)];exact c⟩
 have HCl:=hyd hc1;have HSr:Hid (∀w',Below w.heap.size w w'->BR sa f (P+R) w'):=fun w' h=>hS.below h
 obtain⟨na,nc,hc4,hrow⟩:=hX;have HC4:Hid (∀w',Below w.heap.size w w'->w'.cell? ⟨gb,4,none⟩=some (.slice na P nc)):=fun w' h=>by rw[h.cell (p:=⟨gb,4,none⟩) (World.block_lt_of_cell? w _ hc4)];exact hc4
 have HRw:Hid (∀p,p<P->∃nb o ra rc,na=some ⟨nb,o,none⟩/\∀w',Below w.heap.size w w'->w'.cell? ⟨nb,o+p,none⟩=some (.slice ra (P+R) rc)/\BR ra (nx p) (P+R) w'/\∀k o',ra=some ⟨k,o',none⟩->k≠w.heap.size):=fun p hp=>by
  obtain⟨nb,o,ra,rc,e,c1,br⟩:=hrow p hp;refine⟨nb,o,ra,rc,e,fun w' h=>⟨by rw[h.cell (p:=⟨nb,o+p,none⟩) (World.block_lt_of_cell? w _ c1)];exact c1,br.below h,fun k o' ek=>?_⟩⟩;obtain⟨k2,o2,e2,c2⟩:=br 0 (by omega);have:=World.block_lt_of_cell? w _ c2;rw[ek]at e2;cases e2;simp only at this;omega
 have hP':(P:Int)<=1000:=by omega
 obtain⟨hs,hhs⟩:=nam (hsR Ts ti nd);rw[<-hhs]at HTk ⊢;clear hc1 hG hNs hhs hS hrow hc4;go_enter Tryz.func58,Tryz.ntmps58;go_wp2_with fail;refine HNo.out.mono ?_;rintro e w1 ⟨rfl,T1,B1,s1⟩;clear HNo;go_wp2_with fail
 go_loopw [8] (fun x w'=>∃p:Nat,p<=P/\x=.int .i64 p/\TC w.heap.size (bl (aftTo hs nx f b p) (P+R)) w'/\Below w.heap.size w w'/\w.heap.size+1<=w'.heap.size) (fun x _=>P-(intOf x).toNat)
 case atStart=>exact⟨0,by omega,rfl,by rw[q0o (g:=fun _=>false) (fun i _=>by simp[aftTo])];exact T1,B1,s1⟩
 case round=>
  clear T1 B1 s1;obtain⟨p,hp,rfl,T,B,sz⟩:=hrel;have c1:=HCl.out wr B;by_cases hpl:p<P
  ·have hpl':(p:Int)<P:=by omega
   have hpl2:(p:Int)<P+(R:Int):=by omega
   have HX1:=hyd (HTk.out p wr hpl B);have HT:=hyd T;clear T;go_wp2_with fail;refine HX1.out.mono ?_;rintro e w3 ⟨rfl,B3⟩;have Bw3:=B.trans (B3.mono B.size);have T3:=HT.out.block (B3.block _ (by omega));have s3:w.heap.size+1<=w3.heap.size:=by have:=B3.size;omega
   obtain⟨sb,so,es,cs⟩:=HSr.out w3 Bw3 p (by omega);subst es;have HN:Hid ((f p&&hs p b)=false->TC w.heap.size (bl (aftTo hs nx f b (p+1)) (P+R)) w3):=fun h=>by
    rw[q0o (g:=aftTo hs nx f b p) (fun i _=>by rw[q3R,h];simp)];exact T3
   clear c1 HX1 HT B B3;cases hf:f p
   ·rw[hf]at cs;have T4:=HN.out (by rw[hf];rfl);clear HN T3;cases hh:hs p b<;>(go_wp2_with fail;go_roundw;(case rel=>exact⟨p+1,by omega,by go_num,T4,Bw3,s3⟩);(case measure=>simp[intOf];omega))
   ·rw[hf]at cs;cases hh:hs p b
    ·have T4:=HN.out (by rw[hf,hh];rfl);clear HN T3;go_wp2_with fail;go_roundw
     case rel=>exact⟨p+1,by omega,by go_num,T4,Bw3,s3⟩
     case measure=>simp[intOf];omega
    ·clear HN;obtain⟨nb,o,ra,rc,en,hrw⟩:=HRw.out p hpl;subst en;obtain⟨cn,br,hne⟩:=hrw w3 Bw3;have c4:=HC4.out w3 Bw3;have HU:=hyd (q9O w.heap.size (P+R) (P+R) (aftTo hs nx f b p) ra (P+R) rc (nx p) w3 (by omega) T3 (Nat.le_refl _) br hne);have Hsu:Hid (∀i,aftTo hs nx f b (p+1) i=(aftTo hs nx f b p i || nx p i)):=fun i=>by rw[q3R,hf,hh];simp
     clear T3 br hne hrw;go_wp2_with fail;refine HU.out.mono ?_;rintro e w4 ⟨rfl,T4,_,z4,hB4⟩;have T5:TC w.heap.size (bl (aftTo hs nx f b (p+1)) (P+R)) w4:=by
      rw[q0o (g:=fun i=>aftTo hs nx f b p i || nx p i) (fun i _=>Hsu.out i)];exact T4
     have B5:=hB4 w.heap.size w (Nat.le_refl _) Bw3;have s5:w.heap.size+1<=w4.heap.size:=by omega
     clear T4 hB4 HU z4 cn c4 cs;go_wp2_with fail;go_roundw
     case rel=>exact⟨p+1,by omega,by go_num,T5,B5,s5⟩
     case measure=>simp[intOf];omega
  ·have hge:¬(p:Int)<P:=by omega
   have hpP:p=P:=by omega
   subst hpP;go_wp2_with fail;go_ret;exact⟨rfl,T,B,sz⟩
end Go.Proofs.YtoaaklhpmhjhkaaGreat
