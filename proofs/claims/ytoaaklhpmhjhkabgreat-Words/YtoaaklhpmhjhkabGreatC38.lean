import Derived.Test.YtoaaklhpmhjhkabGreatC35
set_option maxRecDepth 100000
set_option maxHeartbeats 4000000
set_option linter.all false
namespace Go.Proofs.YtoaaklhpmhjhkabGreat
open Go.RowKit
variable {a:Act}{ops:Array Oper}{s:ByteArray}{Q:Exit->Act->World->Prop}{x0 x1 x2 x3:Int}{rest:List Oper}{cs:List Value}{b base cap i j m n:Nat}{f:Nat->Int}{o:Oper}{ad:Option Addr}{row:Option Nat}{v v0 v1 v2 v3 v4 v5 v6:Value}{w w' w2 w3:World}
theorem Tx (hgd:o.guard=none) (s x:Operand) (t e:TypeId)
  (ho:o.op=.call { callee:=.builtin .append,args:=#[s,x],argTypes:=#[t,t] }) (i:TypeInfo) (z:Value) (bytes:Nat)
  (ht:Tryz.prog.underlying t=some (.slice e)) (hi:Tryz.prog.info? e=some i) (hz:i.zero=some z) (hsize:i.size=1) (hby:i.bytes=bytes) (hzs:z.cells.size=1) (hbyt:bytes<=8) (base:Nat)
  (v:Value) (cs:List Value) (hs:a.eval s=v) (hG:YN base v cs w)
  (B m:Nat) (news:List Value) (hx:a.eval x=.slice (some ⟨B,0,none⟩) m m) (hl:news.length=m) (hnews:∀j u,news[j]?=some u->w.cell? ⟨B,j,none⟩=some u) (h1c:∀u∈news,u.oneCell'=true)
  (hb:cs.length+m<=100000000) (hbase:base<=w.heap.size) (hm:0<m)
  (h:∀g cap w',YN base (.slice (some ⟨g,0,none⟩) (cs.length+m) cap) (cs++news) w'->w.grownBy w' v.ownBlock->(v.ownBlock=some g\/w.heap.size<=g)->wpList Tryz.prog ops Q rest (a.put o.dst (.slice (some ⟨g,0,none⟩) (cs.length+m) cap)) w'):wpList Tryz.prog ops Q (o::rest) a w:=by
 have hbb:(cs.length+m)*bytes<=140737488355328:=by
  have:(cs.length+m)*bytes<=100000000*8:=Nat.mul_le_mul hb hbyt;omega
 have hn':∀j u,news[j]?=some u->w.cell? ((⟨B,0,none⟩:Addr).add j)=some u:=fun j u hu=>by rw[Addr.add_lit,Nat.zero_add];exact hnews j u hu
 have hgr:∀v' w' (row:Option Nat),w'.ownsRow w.heap.size e 1 v' (cs.length+m) (cs++news)->w.grownBy w' none->∃g cap,v'=.slice (some ⟨g,0,none⟩) (cs.length+m) cap/\w.heap.size<=g/\YN base (.slice (some ⟨g,0,none⟩) (cs.length+m) cap) (cs++news) w'/\w.grownBy w' row:=by
  intro v' w' row r1 r2;have hG':=(YN.ofOwns r1).mono hbase;rcases r1.2 with ⟨_,h0⟩|⟨g,cap,cur,rfl,hgb,_⟩
  ·omega
  ·exact⟨g,cap,rfl,hgb,hG',⟨r2.os,r2.tape,r2.output,r2.size,fun k hk _=>r2.block k hk (by simp)⟩⟩
 rcases hG with ⟨rfl,rfl⟩|⟨g,cap,rfl,h1,h2,h3,h4,h5⟩
 ·refine wpList_append_grows w hgd s x t ho e i z 1 bytes ht hi hz hsize hby hzs (by omega) none 0 0 [] hs (fun _=>⟨rfl,rfl⟩) rfl (fun b hb=>by cases hb) ⟨B,0,none⟩ m m news hx (by omega) hn' h1c (by omega) (by unfold maxLen;simp at hb;omega) (by simpa using hbb) ?_;intro v' w' r1 r2;obtain⟨g,cap,rfl,q0,q1,q2⟩:=hgr v' w' (Value.ownBlock (.slice none 0 0)) (by simpa using r1) r2;exact h g cap w' q1 q2 (Or.inr q0)
 ·refine wpList_append_arg w hgd s x t ho e i z 1 bytes ht hi hz hsize hby hzs (by omega) g 0 cs.length cap cs hs (by omega) (fun j u hu=>by rw[Nat.zero_add];exact h4 j u hu) ⟨B,0,none⟩ m m news hx (by omega) hn' h1c (fun hr j hj=>?_) (by unfold maxLen;omega) hbb (fun hr=>?_) (fun hr v' w' r1 r2=>?_)
  ·rw[Nat.zero_add,Nat.mul_one];exact h5 _ (by omega)
  ·rw[Nat.zero_add,Nat.mul_one];refine h g cap _ (Or.inr ⟨g,cap,by rw[List.length_append,hl],h1,by rw[WD];exact h2,by rw[List.length_append];omega,fun j u hu=>?_,fun j hj=>?_⟩) (Y6 g news _ w) (Or.inl rfl)
   ·by_cases hjl:j<cs.length
    ·rw[List.getElem?_append_left hjl]at hu;rw[World.cell?_setCells_out g news cs.length w ⟨g,j,none⟩ (fun _ _=>Or.inl hjl)];exact h4 j u hu
    ·rw[List.getElem?_append_right (by omega)]at hu;obtain⟨hj2,hu2⟩:=List.getElem?_eq_some_iff.1 hu;have:=World.cell?_setCells_in g news cs.length w (fun q hq=>(h5 _ (by omega)).1) (j-cs.length) hj2;rw[show cs.length+(j-cs.length)=j by omega]at this;rw[this,hu2]
   ·rw[World.frozen?_setCells];refine⟨?_,(h5 j hj).2⟩;by_cases hin:cs.length<=j/\j<cs.length+news.length
    ·have:=World.cell?_setCells_in g news cs.length w (fun q hq=>(h5 _ (by omega)).1) (j-cs.length) (by omega);rw[show cs.length+(j-cs.length)=j by omega]at this;rw[this];rfl
    ·rw[World.cell?_setCells_out g news cs.length w ⟨g,j,none⟩ (fun _ _=>by simp only;omega)];exact(h5 j hj).1
  ·obtain⟨g',cap',rfl,q0,q1,q2⟩:=hgr v' w' (Value.ownBlock (.slice (some ⟨g,0,none⟩) cs.length cap)) r1 r2;exact h g' cap' w' q1 q2 (Or.inr q0)
structure SM (b:Nat) (s:ByteArray) (i:Nat) (x0 x1 x2 x3:Int) (v0 v1 v2 v3 v4 v5 v6:Value) (w:World):Prop where
 h0:w.cell? ⟨b,0,none⟩=some (.int .i64 x0)
 h1:w.cell? ⟨b,1,none⟩=some (.int .i64 x1)
 h2:w.cell? ⟨b,2,none⟩=some (.int .i64 x2)
 h3:w.cell? ⟨b,3,none⟩=some (.int .i64 x3)
 z:w.there (b+1) 0 7
 r:RP (b+1+1) s i w
 t0:w.cell? ⟨b+1+1+1,0,none⟩=some v0
 t1:w.cell? ⟨b+1+1+1,1,none⟩=some v1
 t2:w.cell? ⟨b+1+1+1,2,none⟩=some v2
 t3:w.cell? ⟨b+1+1+1,3,none⟩=some v3
 t4:w.cell? ⟨b+1+1+1,4,none⟩=some v4
 t5:w.cell? ⟨b+1+1+1,5,none⟩=some v5
 t6:w.cell? ⟨b+1+1+1,6,none⟩=some v6
 f0:w.frozen? ⟨b+1+1+1,0,none⟩=false
 f1:w.frozen? ⟨b+1+1+1,1,none⟩=false
 f2:w.frozen? ⟨b+1+1+1,2,none⟩=false
 f3:w.frozen? ⟨b+1+1+1,3,none⟩=false
 f4:w.frozen? ⟨b+1+1+1,4,none⟩=false
 f5:w.frozen? ⟨b+1+1+1,5,none⟩=false
 f6:w.frozen? ⟨b+1+1+1,6,none⟩=false
theorem SM.take (h:SM b s i x0 x1 x2 x3 v0 v1 v2 v3 v4 v5 v6 w) (hr:RP (b+1+1) s j w') (hg:∀k,k<w.heap.size->k≠b+1+1->k<=b+1+1+1->w'.heap[k]?=w.heap[k]?):SM b s j x0 x1 x2 x3 v0 v1 v2 v3 v4 v5 v6 w':=by
 have l2:b+1+1+1<w.heap.size:=World.block_lt_of_cell? w _ h.t0;have e2:∀k,w'.cell? ⟨b+1+1+1,k,none⟩=w.cell? ⟨b+1+1+1,k,none⟩:=fun k=>World.cell?_of_block (w:=w) (a:=⟨b+1+1+1,k,none⟩) (hg (b+1+1+1) l2 (by omega) (by omega))
 have d2:∀k,w'.frozen? ⟨b+1+1+1,k,none⟩=w.frozen? ⟨b+1+1+1,k,none⟩:=fun k=>World.frozen?_of_block (w:=w) (a:=⟨b+1+1+1,k,none⟩) (hg (b+1+1+1) l2 (by omega) (by omega))
 have e0:∀k,w'.cell? ⟨b,k,none⟩=w.cell? ⟨b,k,none⟩:=fun k=>World.cell?_of_block (w:=w) (a:=⟨b,k,none⟩) (hg b (by omega) (by omega) (by omega))
 have e1:∀k,w'.cell? ⟨b+1,k,none⟩=w.cell? ⟨b+1,k,none⟩:=fun k=>World.cell?_of_block (w:=w) (a:=⟨b+1,k,none⟩) (hg (b+1) (by omega) (by omega) (by omega))
 have d1:∀k,w'.frozen? ⟨b+1,k,none⟩=w.frozen? ⟨b+1,k,none⟩:=fun k=>World.frozen?_of_block (w:=w) (a:=⟨b+1,k,none⟩) (hg (b+1) (by omega) (by omega) (by omega))
 exact⟨by rw[e0];exact h.h0,by rw[e0];exact h.h1,by rw[e0];exact h.h2,by rw[e0];exact h.h3,fun j hj=>by rw[e1,d1];exact h.z j hj,hr,
  by rw[e2];exact h.t0,by rw[e2];exact h.t1,by rw[e2];exact h.t2,by rw[e2];exact h.t3,by rw[e2];exact h.t4,by rw[e2];exact h.t5,by rw[e2];exact h.t6,by rw[d2];exact h.f0,by rw[d2];exact h.f1,by rw[d2];exact h.f2,by rw[d2];exact h.f3,by rw[d2];exact h.f4,by rw[d2];exact h.f5,by rw[d2];exact h.f6⟩
theorem SM.set0 (h:SM b s i x0 x1 x2 x3 v0 v1 v2 v3 v4 v5 v6 w) (u:Value):SM b s i x0 x1 x2 x3 u v1 v2 v3 v4 v5 v6 (w.setCell ⟨b+1+1+1,0,none⟩ u):=by
 obtain⟨h0,h1,h2,h3,z,⟨r0,r1,r2⟩,t0,t1,t2,t3,t4,t5,t6,f0,f1,f2,f3,f4,f5,f6⟩:=h;refine⟨?_,?_,?_,?_,fun j hj=>?_,⟨?_,?_,?_⟩,?_,?_,?_,?_,?_,?_,?_,?_,?_,?_,?_,?_,?_,?_⟩
 case refine_5=>rw[World.cell?_setCell_other _ _ _ _ (by intro he;cases he),World.frozen?_setCell];exact z j hj
 all_goals go_simp
theorem SM.set1 (h:SM b s i x0 x1 x2 x3 v0 v1 v2 v3 v4 v5 v6 w) (u:Value):SM b s i x0 x1 x2 x3 v0 u v2 v3 v4 v5 v6 (w.setCell ⟨b+1+1+1,1,none⟩ u):=by
 obtain⟨h0,h1,h2,h3,z,⟨r0,r1,r2⟩,t0,t1,t2,t3,t4,t5,t6,f0,f1,f2,f3,f4,f5,f6⟩:=h;refine⟨?_,?_,?_,?_,fun j hj=>?_,⟨?_,?_,?_⟩,?_,?_,?_,?_,?_,?_,?_,?_,?_,?_,?_,?_,?_,?_⟩
 case refine_5=>rw[World.cell?_setCell_other _ _ _ _ (by intro he;cases he),World.frozen?_setCell];exact z j hj
 all_goals go_simp
theorem SM.set2 (h:SM b s i x0 x1 x2 x3 v0 v1 v2 v3 v4 v5 v6 w) (u:Value):SM b s i x0 x1 x2 x3 v0 v1 u v3 v4 v5 v6 (w.setCell ⟨b+1+1+1,2,none⟩ u):=by
 obtain⟨h0,h1,h2,h3,z,⟨r0,r1,r2⟩,t0,t1,t2,t3,t4,t5,t6,f0,f1,f2,f3,f4,f5,f6⟩:=h;refine⟨?_,?_,?_,?_,fun j hj=>?_,⟨?_,?_,?_⟩,?_,?_,?_,?_,?_,?_,?_,?_,?_,?_,?_,?_,?_,?_⟩
 case refine_5=>rw[World.cell?_setCell_other _ _ _ _ (by intro he;cases he),World.frozen?_setCell];exact z j hj
 all_goals go_simp
theorem SM.set3 (h:SM b s i x0 x1 x2 x3 v0 v1 v2 v3 v4 v5 v6 w) (u:Value):SM b s i x0 x1 x2 x3 v0 v1 v2 u v4 v5 v6 (w.setCell ⟨b+1+1+1,3,none⟩ u):=by
 obtain⟨h0,h1,h2,h3,z,⟨r0,r1,r2⟩,t0,t1,t2,t3,t4,t5,t6,f0,f1,f2,f3,f4,f5,f6⟩:=h;refine⟨?_,?_,?_,?_,fun j hj=>?_,⟨?_,?_,?_⟩,?_,?_,?_,?_,?_,?_,?_,?_,?_,?_,?_,?_,?_,?_⟩
 case refine_5=>rw[World.cell?_setCell_other _ _ _ _ (by intro he;cases he),World.frozen?_setCell];exact z j hj
 all_goals go_simp
theorem SM.set4 (h:SM b s i x0 x1 x2 x3 v0 v1 v2 v3 v4 v5 v6 w) (u:Value):SM b s i x0 x1 x2 x3 v0 v1 v2 v3 u v5 v6 (w.setCell ⟨b+1+1+1,4,none⟩ u):=by
 obtain⟨h0,h1,h2,h3,z,⟨r0,r1,r2⟩,t0,t1,t2,t3,t4,t5,t6,f0,f1,f2,f3,f4,f5,f6⟩:=h;refine⟨?_,?_,?_,?_,fun j hj=>?_,⟨?_,?_,?_⟩,?_,?_,?_,?_,?_,?_,?_,?_,?_,?_,?_,?_,?_,?_⟩
 case refine_5=>rw[World.cell?_setCell_other _ _ _ _ (by intro he;cases he),World.frozen?_setCell];exact z j hj
 all_goals go_simp
theorem SM.set5 (h:SM b s i x0 x1 x2 x3 v0 v1 v2 v3 v4 v5 v6 w) (u:Value):SM b s i x0 x1 x2 x3 v0 v1 v2 v3 v4 u v6 (w.setCell ⟨b+1+1+1,5,none⟩ u):=by
 obtain⟨h0,h1,h2,h3,z,⟨r0,r1,r2⟩,t0,t1,t2,t3,t4,t5,t6,f0,f1,f2,f3,f4,f5,f6⟩:=h;refine⟨?_,?_,?_,?_,fun j hj=>?_,⟨?_,?_,?_⟩,?_,?_,?_,?_,?_,?_,?_,?_,?_,?_,?_,?_,?_,?_⟩
 case refine_5=>rw[World.cell?_setCell_other _ _ _ _ (by intro he;cases he),World.frozen?_setCell];exact z j hj
 all_goals go_simp
theorem SM.set6 (h:SM b s i x0 x1 x2 x3 v0 v1 v2 v3 v4 v5 v6 w) (u:Value):SM b s i x0 x1 x2 x3 v0 v1 v2 v3 v4 v5 u (w.setCell ⟨b+1+1+1,6,none⟩ u):=by
 obtain⟨h0,h1,h2,h3,z,⟨r0,r1,r2⟩,t0,t1,t2,t3,t4,t5,t6,f0,f1,f2,f3,f4,f5,f6⟩:=h;refine⟨?_,?_,?_,?_,fun j hj=>?_,⟨?_,?_,?_⟩,?_,?_,?_,?_,?_,?_,?_,?_,?_,?_,?_,?_,?_,?_⟩
 case refine_5=>rw[World.cell?_setCell_other _ _ _ _ (by intro he;cases he),World.frozen?_setCell];exact z j hj
 all_goals go_simp
def LO (s:ByteArray) (st ce wd:Nat):Tb where
 rules:=Yo s 4 1
 cl:=lst s 10 1 0
 ncl:=256
 lb:=lst s 266 1 1
 nlb:=st
 bs:=lst s (266+st) wd 0
 nbs:=st
 df:=lst s (266+st+st*wd) 1 1
 ndf:=st
 ck:=fun k=>Yo s (266+st+st*wd+st+2*k) 1-1
 nck:=ce
 nx:=fun k=>Yo s (266+st+st*wd+st+2*k+1) 1-1
 nnx:=ce
def FY (s:ByteArray) (st ce wd:Nat) (w:World) (e:Ending) (w':World):Prop:=
 ∃A:T8,e=.returned (.agg (A.cells (LO s st ce wd)))/\(∀w'',w'.heap.size<=w''.heap.size->(∀q,w.heap.size<=q->q<w'.heap.size->w''.heap[q]?=w'.heap[q]?)->Vj (LO s st ce wd) A w'')/\Below w.heap.size w w'
theorem YN.keep (h:YN base v cs w) (hs:w.heap.size<=w'.heap.size) (hk:∀k,base<=k->k<w.heap.size->w'.heap[k]?=w.heap[k]?):YN base v cs w':=
 h.block hs (fun k hlt hv=>hk k (h.ge k hv) hlt)
theorem YN.lt (h:YN base v cs w):∀k,v.ownBlock=some k->k<w.heap.size:=by
 intro k hk;rcases h with ⟨rfl,_⟩|⟨g,cap,rfl,_,hb,_⟩
 ·cases hk
 ·cases hk;exact hb
theorem YN.ilOf (h:YN base (.slice ad m cap) (Ue f n) w):IL ad f n w:=by
 obtain⟨_,_,e,h⟩:=h.il;cases e;exact h
theorem Sr {o:Obj} (hg:(w2.alloc o).grownBy w3 row):∀q,q<w2.heap.size->row≠some q->w3.heap[q]?=w2.heap[q]?:=fun q hq hne=>
 (hg.block q (by simp;omega) (fun e=>hne e.symm)).trans (Below.heap_alloc w2 o q hq)
theorem SM.keep (h:SM b s i x0 x1 x2 x3 v0 v1 v2 v3 v4 v5 v6 w) (hg:∀k,k<=b+1+1+1->w'.heap[k]?=w.heap[k]?):SM b s i x0 x1 x2 x3 v0 v1 v2 v3 v4 v5 v6 w':=
 h.take (h.r.block (hg _ (by omega))) (fun k _ _ hk=>hg k hk)
theorem M2 {b N0 g cap:Nat}{w w2 w3 W4:World}{o:Obj}{aC aN:Option Addr}{nC nN cC cN q:Nat}{u:Value}{LC LN LC':List Value}
  (hk:b+1+1+1<N0) (hz:N0<=w2.heap.size) (hC:YN N0 (.slice aC nC cC) LC w2) (hN:YN N0 (.slice aN nN cN) LN w2)
  (hdis:∀x y,(Value.slice aC nC cC).ownBlock=some x->(Value.slice aN nN cN).ownBlock=some y->x≠y)
  (hB:Below b w w2) (hK:∀q,b+1+1+1<q->q<N0->w2.heap[q]?=W4.heap[q]?)
  (hC':YN N0 u LC' w3) (hu:u=.slice (some ⟨g,0,none⟩) LC'.length cap)
  (hg:(w2.alloc o).grownBy w3 (Value.slice aC nC cC).ownBlock) (hgo:(Value.slice aC nC cC).ownBlock=some g\/(w2.alloc o).heap.size<=g):
  YN N0 u LC' (w3.setCell ⟨b+1+1+1,q,none⟩ u)/\YN N0 (.slice aN nN cN) LN (w3.setCell ⟨b+1+1+1,q,none⟩ u) /\
  (∀x y,u.ownBlock=some x->(Value.slice aN nN cN).ownBlock=some y->x≠y)/\Below b w (w3.setCell ⟨b+1+1+1,q,none⟩ u) /\
  (∀p,b+1+1+1<p->p<N0->(w3.setCell ⟨b+1+1+1,q,none⟩ u).heap[p]?=W4.heap[p]?)/\N0<=(w3.setCell ⟨b+1+1+1,q,none⟩ u).heap.size:=by
 have hkp:=Sr hg;have hsz:w2.heap.size+1<=w3.heap.size:=by have:=hg.size;simpa using this
 have hss:(w3.setCell ⟨b+1+1+1,q,none⟩ u).heap.size=w3.heap.size:=by simp[World.setCell]
 have hsc:∀p,p≠b+1+1+1->(w3.setCell ⟨b+1+1+1,q,none⟩ u).heap[p]?=w3.heap[p]?:=fun p hp=>Below.heap_setCell w3 ⟨b+1+1+1,q,none⟩ u p (fun e=>hp e)
 have hge:=hC.ge;have hBs:=hB.size;refine⟨hC'.keep (by omega) (fun p hp _=>hsc p (by omega)),?_,?_,?_,?_,by omega⟩
 ·have h3:YN N0 (.slice aN nN cN) LN w3:=hN.block (by omega) (fun p hp hv=>hkp p hp (fun e=>hdis p p e hv rfl));exact h3.keep (by omega) (fun p hp _=>hsc p (by omega))
 ·intro x y hx hy;rw[hu]at hx;have hx':g=x:=Option.some.inj hx;subst hx';rcases hgo with h|h
  ·exact hdis _ _ h hy
  ·have:=hN.lt y hy;simp at h;omega
 ·have h3:Below b w w3:=(hB.alloc (by omega) o).grown hg (by simp;omega) (fun p hp=>by have:=hge p hp;omega);exact h3.setCell (p:=⟨b+1+1+1,q,none⟩) (by simp;omega) _
 ·intro p h1 h2;rw[hsc p (by omega),hkp p (by omega) (fun e=>by have:=hge p e;omega)];exact hK p h1 h2
theorem Q7 (s:ByteArray) (st ce wd:Nat) (w:World) (hs:s.size<=1000000) (hst:st<=96) (hce:ce<=24576) (hwd:wd=1\/wd=2) (hsz:s.size=266+st*(wd+2)+ce*2+4):
  Calls Tryz.prog 60 #[.string s,.agg #[.int .i64 (Yo s 4 1),.int .i64 st,.int .i64 ce,.int .i64 wd]] w (FY s st ce wd w):=by
 have hz:=WA;obtain⟨W,hW⟩:=nam ((((w.alloc (.cells #[.int .i64 (Yo s 4 1),.int .i64 st,.int .i64 ce,.int .i64 wd] 131)).alloc (.cells #[.int .i64 0,.slice none 0 0,.slice none 0 0,.slice none 0 0,.slice none 0 0,.slice none 0 0,.slice none 0 0] 45)).alloc (.cells #[.string s,.int .i64 10] 151)).alloc (.cells #[.int .i64 (Yo s 4 1),.slice none 0 0,.slice none 0 0,.slice none 0 0,.slice none 0 0,.slice none 0 0,.slice none 0 0] 45));have hR0:SM w.heap.size s 10 (Yo s 4 1) st ce wd (.int .i64 (Yo s 4 1)) (.slice none 0 0) (.slice none 0 0) (.slice none 0 0) (.slice none 0 0) (.slice none 0 0) (.slice none 0 0) W:=by
  rw[hW];refine⟨?_,?_,?_,?_,fun j hj=>?_,⟨?_,?_,?_⟩,?_,?_,?_,?_,?_,?_,?_,?_,?_,?_,?_,?_,?_,?_⟩
  case refine_5=>rcases j with _|_|_|_|_|_|_|j<;>first|(refine⟨?_,?_⟩<;>go_simp)|omega
  all_goals go_simp
 have hB0:Below w.heap.size w W:=by
  rw[hW];exact((((Below.refl _ _).alloc (Nat.le_refl _) _).alloc (by simp) _).alloc (by simp;omega) _).alloc (by simp;omega) _
 have hwl:1<=wd/\wd<=2:=by omega
 have hsm:s.size=266+st+st*wd+st+ce*2+4:=by rw[hsz,Nat.mul_add];omega
 have Hsm:=hyd hsm;clear hsz;have hk0:w.heap.size+1+1+1<W.heap.size:=World.block_lt_of_cell? W _ hR0.t0;go_enter Tryz.func60,Tryz.ntmps60;go_wp2_with fail;rw[<-hW];clear hW hz;generalize hb:w.heap.size=b at *;clear hsm;refine Calls.mono (Wl (b+1+1) s 10 256 1 0 W hs (by omega) (by omega) (by have:=Hsm.out;omega) (by omega) hR0.r) ?_;rintro e w1 ⟨v1,rfl,g1,r1,o1⟩;obtain⟨a1,c1,rfl,_⟩:=g1.il;have R1:=hR0.take (j:=266) (by have:=r1;simpa using this) (fun q hq hne _=>o1.block q hq (by simp;omega));have B1:Below b w w1:=hB0.grown o1 (by have:=hB0.size;omega) (fun q hq=>by cases hq;omega);have S1:=R1.set1 (.slice a1 256 c1);have C1:Below b w (w1.setCell ⟨b+1+1+1,1,none⟩ (.slice a1 256 c1)):=B1.setCell (p:=⟨b+1+1+1,1,none⟩) (by simp;omega) _;have K1:b+1+1+1<(w1.setCell ⟨b+1+1+1,1,none⟩ (.slice a1 256 c1)).heap.size:=by have:=o1.size;simp only[World.setCell,Array.size_modify];omega
 have G1:YN W.heap.size (.slice a1 256 c1) (Ue (lst s 10 1 0) 256) (w1.setCell ⟨b+1+1+1,1,none⟩ (.slice a1 256 c1)):=g1.keep (by simp[World.setCell]) (fun q hq _=>Below.heap_setCell w1 ⟨b+1+1+1,1,none⟩ _ q (fun e=>by have e':q=b+1+1+1:=e;omega));have G1b:=G1.mono (base':=b+1+1+1+1) (by omega);clear G1 g1;have G1:=G1b;clear G1b;have q1:=R1.t1;have p1:=R1.f1;have s11:=S1.h1;have s12:=S1.h2;have s13:=S1.h3;clear r1 o1;go_wp2_with fail
 (try clear q1);(try clear p1);(try clear s11);(try clear s12);(try clear s13);(try clear R1);(try clear B1);(try clear hR0);(try clear hB0);(try clear hk0)
 generalize w1.setCell ⟨b+1+1+1,1,none⟩ (.slice a1 256 c1)=W1 at *;refine Calls.mono (Wl (b+1+1) s 266 st 1 1 W1 hs (by omega) (by omega) (by have:=Hsm.out;omega) (by omega) S1.r) ?_;rintro e w2 ⟨v2,rfl,g2,r2,o2⟩;obtain⟨a2,c2,rfl,_⟩:=g2.il;have R2:=S1.take (j:=(266+st)) (by have:=r2;simpa using this) (fun q hq hne _=>o2.block q hq (by simp;omega));have B2:Below b w w2:=C1.grown o2 (by have:=C1.size;omega) (fun q hq=>by cases hq;omega);have S2:=R2.set2 (.slice a2 st c2);have C2:Below b w (w2.setCell ⟨b+1+1+1,2,none⟩ (.slice a2 st c2)):=B2.setCell (p:=⟨b+1+1+1,2,none⟩) (by simp;omega) _;have K2:b+1+1+1<(w2.setCell ⟨b+1+1+1,2,none⟩ (.slice a2 st c2)).heap.size:=by have:=o2.size;simp only[World.setCell,Array.size_modify];omega
 have G2:YN W1.heap.size (.slice a2 st c2) (Ue (lst s 266 1 1) st) (w2.setCell ⟨b+1+1+1,2,none⟩ (.slice a2 st c2)):=g2.keep (by simp[World.setCell]) (fun q hq _=>Below.heap_setCell w2 ⟨b+1+1+1,2,none⟩ _ q (fun e=>by have e':q=b+1+1+1:=e;omega));have G1':YN (b+1+1+1+1) (.slice a1 256 c1) (Ue (lst s 10 1 0) 256) (w2.setCell ⟨b+1+1+1,2,none⟩ (.slice a2 st c2)):=(G1.keep o2.size (fun q hq hlt=>o2.block q hlt (by simp;omega))).keep (by simp[World.setCell]) (fun q hq _=>Below.heap_setCell w2 ⟨b+1+1+1,2,none⟩ _ q (fun e=>by have e':q=b+1+1+1:=e;omega));clear G1;have G1:=G1';clear G1';have G2b:=G2.mono (base':=b+1+1+1+1) (by omega);clear G2 g2;have G2:=G2b;clear G2b;have q2:=R2.t2;have p2:=R2.f2;have s21:=S2.h1;have s22:=S2.h2;have s23:=S2.h3;clear r2 o2;go_wp2_with fail
 (try clear q2);(try clear p2);(try clear s21);(try clear s22);(try clear s23);(try clear R2);(try clear B2);(try clear S1);(try clear C1);(try clear K1)
 generalize w2.setCell ⟨b+1+1+1,2,none⟩ (.slice a2 st c2)=W2 at *;refine Calls.mono (Wl (b+1+1) s (266+st) st wd 0 W2 hs (by omega) (by omega) (by have:=Hsm.out;omega) (by omega) S2.r) ?_;rintro e w3 ⟨v3,rfl,g3,r3,o3⟩;obtain⟨a3,c3,rfl,_⟩:=g3.il;have R3:=S2.take (j:=(266+st+st*wd)) (by have:=r3;simpa using this) (fun q hq hne _=>o3.block q hq (by simp;omega));have B3:Below b w w3:=C2.grown o3 (by have:=C2.size;omega) (fun q hq=>by cases hq;omega);have S3:=R3.set3 (.slice a3 st c3);have C3:Below b w (w3.setCell ⟨b+1+1+1,3,none⟩ (.slice a3 st c3)):=B3.setCell (p:=⟨b+1+1+1,3,none⟩) (by simp;omega) _;have K3:b+1+1+1<(w3.setCell ⟨b+1+1+1,3,none⟩ (.slice a3 st c3)).heap.size:=by have:=o3.size;simp only[World.setCell,Array.size_modify];omega
 have G3:YN W2.heap.size (.slice a3 st c3) (Ue (lst s (266+st) wd 0) st) (w3.setCell ⟨b+1+1+1,3,none⟩ (.slice a3 st c3)):=g3.keep (by simp[World.setCell]) (fun q hq _=>Below.heap_setCell w3 ⟨b+1+1+1,3,none⟩ _ q (fun e=>by have e':q=b+1+1+1:=e;omega));have G1':YN (b+1+1+1+1) (.slice a1 256 c1) (Ue (lst s 10 1 0) 256) (w3.setCell ⟨b+1+1+1,3,none⟩ (.slice a3 st c3)):=(G1.keep o3.size (fun q hq hlt=>o3.block q hlt (by simp;omega))).keep (by simp[World.setCell]) (fun q hq _=>Below.heap_setCell w3 ⟨b+1+1+1,3,none⟩ _ q (fun e=>by have e':q=b+1+1+1:=e;omega));clear G1;have G1:=G1';clear G1';have G2':YN (b+1+1+1+1) (.slice a2 st c2) (Ue (lst s 266 1 1) st) (w3.setCell ⟨b+1+1+1,3,none⟩ (.slice a3 st c3)):=(G2.keep o3.size (fun q hq hlt=>o3.block q hlt (by simp;omega))).keep (by simp[World.setCell]) (fun q hq _=>Below.heap_setCell w3 ⟨b+1+1+1,3,none⟩ _ q (fun e=>by have e':q=b+1+1+1:=e;omega));clear G2;have G2:=G2';clear G2';have G3b:=G3.mono (base':=b+1+1+1+1) (by omega);clear G3 g3;have G3:=G3b;clear G3b;have q3:=R3.t3;have p3:=R3.f3;have s31:=S3.h1;have s32:=S3.h2;have s33:=S3.h3;clear r3 o3;go_wp2_with fail
 (try clear q3);(try clear p3);(try clear s31);(try clear s32);(try clear s33);(try clear R3);(try clear B3);(try clear S2);(try clear C2);(try clear K2)
 generalize w3.setCell ⟨b+1+1+1,3,none⟩ (.slice a3 st c3)=W3 at *;refine Calls.mono (Wl (b+1+1) s (266+st+st*wd) st 1 1 W3 hs (by omega) (by omega) (by have:=Hsm.out;omega) (by omega) S3.r) ?_;rintro e w4 ⟨v4,rfl,g4,r4,o4⟩;obtain⟨a4,c4,rfl,_⟩:=g4.il;have R4:=S3.take (j:=(266+st+st*wd+st)) (by have:=r4;simpa using this) (fun q hq hne _=>o4.block q hq (by simp;omega));have B4:Below b w w4:=C3.grown o4 (by have:=C3.size;omega) (fun q hq=>by cases hq;omega);have S4:=R4.set4 (.slice a4 st c4);have C4:Below b w (w4.setCell ⟨b+1+1+1,4,none⟩ (.slice a4 st c4)):=B4.setCell (p:=⟨b+1+1+1,4,none⟩) (by simp;omega) _;have K4:b+1+1+1<(w4.setCell ⟨b+1+1+1,4,none⟩ (.slice a4 st c4)).heap.size:=by have:=o4.size;simp only[World.setCell,Array.size_modify];omega
 have G4:YN W3.heap.size (.slice a4 st c4) (Ue (lst s (266+st+st*wd) 1 1) st) (w4.setCell ⟨b+1+1+1,4,none⟩ (.slice a4 st c4)):=g4.keep (by simp[World.setCell]) (fun q hq _=>Below.heap_setCell w4 ⟨b+1+1+1,4,none⟩ _ q (fun e=>by have e':q=b+1+1+1:=e;omega));have G1':YN (b+1+1+1+1) (.slice a1 256 c1) (Ue (lst s 10 1 0) 256) (w4.setCell ⟨b+1+1+1,4,none⟩ (.slice a4 st c4)):=(G1.keep o4.size (fun q hq hlt=>o4.block q hlt (by simp;omega))).keep (by simp[World.setCell]) (fun q hq _=>Below.heap_setCell w4 ⟨b+1+1+1,4,none⟩ _ q (fun e=>by have e':q=b+1+1+1:=e;omega));clear G1;have G1:=G1';clear G1';have G2':YN (b+1+1+1+1) (.slice a2 st c2) (Ue (lst s 266 1 1) st) (w4.setCell ⟨b+1+1+1,4,none⟩ (.slice a4 st c4)):=(G2.keep o4.size (fun q hq hlt=>o4.block q hlt (by simp;omega))).keep (by simp[World.setCell]) (fun q hq _=>Below.heap_setCell w4 ⟨b+1+1+1,4,none⟩ _ q (fun e=>by have e':q=b+1+1+1:=e;omega));clear G2;have G2:=G2';clear G2';have G3':YN (b+1+1+1+1) (.slice a3 st c3) (Ue (lst s (266+st) wd 0) st) (w4.setCell ⟨b+1+1+1,4,none⟩ (.slice a4 st c4)):=(G3.keep o4.size (fun q hq hlt=>o4.block q hlt (by simp;omega))).keep (by simp[World.setCell]) (fun q hq _=>Below.heap_setCell w4 ⟨b+1+1+1,4,none⟩ _ q (fun e=>by have e':q=b+1+1+1:=e;omega));clear G3;have G3:=G3';clear G3';have G4b:=G4.mono (base':=b+1+1+1+1) (by omega);clear G4 g4;have G4:=G4b;clear G4b;have q4:=R4.t4;have p4:=R4.f4;have s41:=S4.h1;have s42:=S4.h2;have s43:=S4.h3;clear r4 o4;go_wp2_with fail
 (try clear q4);(try clear p4);(try clear s41);(try clear s42);(try clear s43);(try clear R4);(try clear B4);(try clear S3);(try clear C3);(try clear K3)
 generalize w4.setCell ⟨b+1+1+1,4,none⟩ (.slice a4 st c4)=W4 at *;obtain⟨ti,hti,tz0,tz1,tz2⟩:=UI;obtain⟨N0,hN0⟩:=nam W4.heap.size;obtain⟨P0,hP0⟩:=nam (266+st+st*wd+st);have HSz:Hid (s.size=P0+ce*2+4):=by show _=_;rw[Hsm.out,hP0]
 rw[<-hP0]at S4;rw[<-hN0]at K4;have HP0:=hyd hP0;have HN0:=hyd hN0;clear hP0 hN0 Hsm
 go_loopw [32] (fun i w'=>∃(k:Nat) (vC vN:Value),k<=ce/\i=.int .i64 k/\SM b s (P0+2*k) (Yo s 4 1) st ce wd (.int .i64 (Yo s 4 1)) (.slice a1 256 c1) (.slice a2 st c2) (.slice a3 st c3) (.slice a4 st c4) vC vN w'/\YN N0 vC (Ue (fun k=>Yo s (P0+2*k) 1-1) k) w'/\YN N0 vN (Ue (fun k=>Yo s (P0+2*k+1) 1-1) k) w'/\(∀x y,vC.ownBlock=some x->vN.ownBlock=some y->x≠y)/\Below b w w'/\(∀q,b+1+1+1<q->q<N0->w'.heap[q]?=W4.heap[q]?)/\N0<=w'.heap.size) (fun i _=>ce-(intOf i).toNat)
 case atStart=>exact⟨0,.slice none 0 0,.slice none 0 0,by omega,rfl,S4,YN.nil _ _,YN.nil _ _,fun x y h=>(by cases h),C4,fun _ _ _=>rfl,by rw[HN0.out];exact Nat.le_refl _⟩
 case round=>
  obtain⟨k,vC,vN,hk,rfl,hR,hC,hN,hdis,hB,hKp,hNz⟩:=hrel;have HKp:=hyd hKp;have Hdis:=hyd hdis;clear hKp hdis;by_cases hlt:k<ce
  ·have hlt':(k:Int)<ce:=by omega
   have hx:=Vy s (P0+2*k) 1 (by omega);have hy:=Vy s (P0+2*k+1) 1 (by omega);have T1:=hyd (Wy (b+1+1) s (P0+2*k) 1 wr (by omega) (by omega) (by have:=HSz.out;omega) hR.r);have T2:Hid (∀w',RP (b+1+1) s (P0+2*k+1) w'->Calls Tryz.prog 74 #[.pointer (some ⟨b+1+1,0,none⟩),.int .i64 1] w' fun e w''=>e=.returned (.int .i64 (Yo s (P0+2*k+1) 1))/\RP (b+1+1) s (P0+2*k+1+1) w''/\w'.grownBy w'' (some (b+1+1))/\w''.heap.size=w'.heap.size):=fun w' h'=>Wy (b+1+1) s (P0+2*k+1) 1 w' (by omega) (by omega) (by have:=HSz.out;omega) h'
   have HC1:Hid (Ue (fun k=>Yo s (P0+2*k) 1-1) (k+1)=Ue (fun k=>Yo s (P0+2*k) 1-1) k++[.int .i64 (Yo s (P0+2*k) 1-1)]):=QU _ _;have HN1:Hid (Ue (fun k=>Yo s (P0+2*k+1) 1-1) (k+1)=Ue (fun k=>Yo s (P0+2*k+1) 1-1) k++[.int .i64 (Yo s (P0+2*k+1) 1-1)]):=QU _ _;have lC:(Ue (fun k=>Yo s (P0+2*k) 1-1) k).length=k:=Td _ _;have lN:(Ue (fun k=>Yo s (P0+2*k+1) 1-1) k).length=k:=Td _ _;generalize Ue (fun k=>Yo s (P0+2*k) 1-1) k=LC at *;generalize Ue (fun k=>Yo s (P0+2*k+1) 1-1) k=LN at *;generalize Yo s (P0+2*k) 1=x at *;generalize Yo s (P0+2*k+1) 1=y at *;have HlC:Hid (LC.length=k):=lC;have HlN:Hid (LN.length=k):=lN;clear lC lN;obtain⟨aC,cC,rfl⟩:∃aC cC,vC=.slice aC LC.length cC:=by
    rcases hC with ⟨rfl,h⟩|⟨g,cap,rfl,_⟩
    ·exact⟨none,0,by rw[h];rfl⟩
    ·exact⟨_,_,rfl⟩
   obtain⟨aN,cN,rfl⟩:∃aN cN,vN=.slice aN LN.length cN:=by
    rcases hN with ⟨rfl,h⟩|⟨g,cap,rfl,_⟩
    ·exact⟨none,0,by rw[h];rfl⟩
    ·exact⟨_,_,rfl⟩
   go_wp2_with fail;refine T1.out.mono ?_;rintro e w1 ⟨rfl,r1,o1,z1⟩;have Q1:=hR.take r1 (fun q hq hne _=>o1.block q hq (by simp;omega));go_wp2_with fail;refine(T2.out w1 r1).mono ?_;rintro e w2 ⟨rfl,r2,o2,z2⟩;have Q2:=Q1.take r2 (fun q hq hne _=>o2.block q hq (by simp;omega));have o12:=VK o1 o2;have hC2:=hC.keep o12.size (fun q hq hl=>o12.block q hl (by simp;omega));have hN2:=hN.keep o12.size (fun q hq hl=>o12.block q hl (by simp;omega));have hB2:Below b w w2:=hB.grown o12 (by have:=hB.size;omega) (fun q hq=>by cases hq;omega);have hK2:Hid (∀q,b+1+1+1<q->q<N0->w2.heap[q]?=W4.heap[q]?):=fun q h1 h2=>(o12.block q (by omega) (by simp;omega)).trans (HKp.out q h1 h2)
   have hz2:N0<=w2.heap.size:=by omega
   have hk2:b+1+1+1<w2.heap.size:=by omega
   clear hR hC hN hB HKp Q1 r1 o1 o2 z1 z2 T1 T2 o12 hNz r2;have hnew:∀q u,[Value.int .i64 (x-1)][q]?=some u->(w2.alloc (.cells #[.int .i64 (x-1)] 3)).cell? ⟨w2.heap.size,q,none⟩=some u:=fun q u hu=>by
    rw[World.cell?_alloc_new];simpa using hu
   have hC3:=hC2.alloc (.cells #[.int .i64 (x-1)] 3);have hlen:LC.length+1<=100000000:=by have:=HlC.out;omega
   have hlen2:LN.length+1<=100000000:=by have:=HlN.out;omega
   have hq5:=Q2.t5;have HNW:Hid (∀(W3:World) (n:Nat),W3.heap.size=n->∀q u,[Value.int .i64 (y-1)][q]?=some u->(W3.alloc (.cells #[.int .i64 (y-1)] 3)).cell? ⟨n,q,none⟩=some u):=fun W3 n hn q u hu=>by
    subst hn;rw[World.cell?_alloc_new];simpa using hu
   have Hdis2:Hid (∀(g cap:Nat),(∀x y,(Value.slice (some ⟨g,0,none⟩) (LC.length+1) cap).ownBlock=some x->(Value.slice aN LN.length cN).ownBlock=some y->x≠y)->Hid (∀x y,(Value.slice aN LN.length cN).ownBlock=some x->(Value.slice (some ⟨g,0,none⟩) (LC.length+1) cap).ownBlock=some y->x≠y)):=fun g cap h x y hx hy e=>h y x hy hx e.symm
   have Hkk:Hid (∀(W3:World),(∀p,b+1+1+1<p->p<N0->W3.heap[p]?=W4.heap[p]?)->Hid (∀p,b+1+1+1<p->p<N0->W3.heap[p]?=W4.heap[p]?)):=fun W3 h=>h
   go_wp2_with (first|(at_builtin;refine Tx (by rfl) _ _ 39 3 (by rfl) ti (.int .i64 0) 8 u_f hti tz0 tz1 tz2 rfl (by omega) N0 (.slice aC LC.length cC) LC (by rfl) hC3 w2.heap.size 1 [.int .i64 (x-1)] (by rfl) rfl hnew (by simp[Value.oneCell']) hlen (by simp;omega) (by omega) ?_;intro g cap w3 hC4 hgrow hgo;have Q3:=Q2.keep (fun q hq=>Sr hgrow q (by omega) (fun e=>by have:=hC2.ge q e;omega));have S3:=Q3.set5 (.slice (some ⟨g,0,none⟩) (LC.length+1) cap);obtain⟨e1,e2,e3,e4,e5,e6⟩:=M2 (q:=5) (cap:=cap) K4 hz2 hC2 hN2 Hdis.out hB2 hK2.out hC4 (by simp) hgrow hgo;have s5:=Q3.t5;have p5:=Q3.f5;have s6:=S3.t6;have hN3:=e2.alloc (.cells #[.int .i64 (y-1)] 3);have hnew2:=HNW.out (w3.setCell ⟨b+1+1+1,5,none⟩ (.slice (some ⟨g,0,none⟩) (LC.length+1) cap)) w3.heap.size (by simp[World.setCell]);have Hd2:=Hdis2.out g cap e3;have H5:=Hkk.out (w3.setCell ⟨b+1+1+1,5,none⟩ (.slice (some ⟨g,0,none⟩) (LC.length+1) cap)) e5;clear e3 e5;have z3:N0<=w3.heap.size:=(by have:=hgrow.size;simp at this;omega))|(at_builtin;refine Tx (by rfl) _ _ 39 3 (by rfl) ti (.int .i64 0) 8 u_f hti tz0 tz1 tz2 rfl (by omega) N0 (.slice aN LN.length cN) LN (by rfl) hN3 w3.heap.size 1 [.int .i64 (y-1)] (by rfl) rfl hnew2 (by simp[Value.oneCell']) hlen2 (Nat.le_trans e6 (by simp)) (by omega) ?_;intro g2 cap2 w5 hN4 hgrow2 hgo2;have Q5:=S3.keep (fun q hq=>Sr hgrow2 q (by omega) (fun e=>by have:=e2.ge q e;omega));have s7:=Q5.t6;have p7:=Q5.f6));obtain⟨d1,d2,d3,d4,d5,d6⟩:=M2 (q:=6) (cap:=cap2) K4 e6 e2 e1 Hd2.out e4 H5.out hN4 (by simp) hgrow2 hgo2;have S5:=Q5.set6 (.slice (some ⟨g2,0,none⟩) (LN.length+1) cap2);rw[<-HC1.out]at d2;rw[<-HN1.out]at d1;go_roundw
   case rel=>exact⟨k+1,_,_,by omega,by go_num,by rw[show P0+2*(k+1)=P0+2*k+1+1 by omega];exact S5,d2,d1,fun x y hx hy h=>d3 y x hy hx h.symm,d4,d5,d6⟩
   case measure=>simp[intOf];omega
  ·have hge:¬(k:Int)<ce:=by omega
   have hkc:ce=k:=by omega
   subst hkc;obtain rfl:=HP0.out;obtain⟨a5,c5,rfl,_⟩:=hC.il;obtain⟨a6,c6,rfl,_⟩:=hN.il;have hrg:wr.rangeAt (b+1+1+1) 0 [.int .i64 (Yo s 4 1),.slice a1 256 c1,.slice a2 st c2,.slice a3 st c3,.slice a4 st c4,.slice a5 ce c5,.slice a6 ce c6]:=fun j v hv=>by
    rw[Nat.zero_add];rcases j with _|_|_|_|_|_|_|j
    ·cases hv;exact hR.t0
    ·cases hv;exact hR.t1
    ·cases hv;exact hR.t2
    ·cases hv;exact hR.t3
    ·cases hv;exact hR.t4
    ·cases hv;exact hR.t5
    ·cases hv;exact hR.t6
    ·cases hv
   have hth:=hR.z;go_wp2_with (first|(refine wpList_load_mid rfl 45 _ rfl _ _ rfl [.int .i64 (Yo s 4 1),.slice a1 256 c1,.slice a2 st c2,.slice a3 st c3,.slice a4 st c4,.slice a5 ce c5,.slice a6 ce c6] _ hrg u_g rfl YM ?_)|(refine wpList_store_mid rfl 45 _ _ rfl (b+1) 0 #[.int .i64 (Yo s 4 1),.slice a1 256 c1,.slice a2 st c2,.slice a3 st c3,.slice a4 st c4,.slice a5 ce c5,.slice a6 ce c6] rfl rfl hth YM (by simp[Value.oneCell']) ?_));have hG:=Y6 (b+1) [.int .i64 (Yo s 4 1),.slice a1 256 c1,.slice a2 st c2,.slice a3 st c3,.slice a4 st c4,.slice a5 ce c5,.slice a6 ce c6] 0 wr;have hr':=World.rangeAt_setCells_same wr (b+1) 0 [.int .i64 (Yo s 4 1),.slice a1 256 c1,.slice a2 st c2,.slice a3 st c3,.slice a4 st c4,.slice a5 ce c5,.slice a6 ce c6] hth;have hfin:=run_loadVar_mid (P:=Tryz.prog) (wr.setCells (b+1) 0 [.int .i64 (Yo s 4 1),.slice a1 256 c1,.slice a2 st c2,.slice a3 st c3,.slice a4 st c4,.slice a5 ce c5,.slice a6 ce c6]) (b+1) 0 45 [.int .i64 (Yo s 4 1),.slice a1 256 c1,.slice a2 st c2,.slice a3 st c3,.slice a4 st c4,.slice a5 ce c5,.slice a6 ce c6] _ hr' u_g rfl YM;refine bodyPost_ret (v:=.agg #[.int .i64 (Yo s 4 1),.slice a1 256 c1,.slice a2 st c2,.slice a3 st c3,.slice a4 st c4,.slice a5 ce c5,.slice a6 ce c6]) (Xb Tryz.results60 rfl hfin) rfl ?_;generalize wr.setCells (b+1) 0 [.int .i64 (Yo s 4 1),.slice a1 256 c1,.slice a2 st c2,.slice a3 st c3,.slice a4 st c4,.slice a5 ce c5,.slice a6 ce c6]=W9 at *;have kp:∀q,b+1+1+1+1<=q->q<W4.heap.size->W9.heap[q]?=W4.heap[q]?:=fun q h1 h2=>by
    have:=HN0.out;rw[hG.block q (by omega) (by simp;omega)];exact HKp.out q (by omega) (by omega)
   have sz:W4.heap.size<=W9.heap.size:=by have:=HN0.out;have:=hG.size;omega
   have hC9:=hC.keep hG.size (fun q hq hlt=>hG.block q hlt (by simp;omega));have hN9:=hN.keep hG.size (fun q hq hlt=>hG.block q hlt (by simp;omega));refine⟨⟨a1,c1,a2,c2,a3,c3,a4,c4,a5,c5,a6,c6⟩,rfl,fun W'' zz kk=>?_,?_⟩
   ·have k1:∀q,b+1+1+1+1<=q->q<W9.heap.size->W''.heap[q]?=W9.heap[q]?:=fun q hq hl=>kk q (by omega) hl
    have k2:∀q,N0<=q->q<W9.heap.size->W''.heap[q]?=W9.heap[q]?:=fun q hq hl=>kk q (by omega) hl
    exact⟨((G1.keep sz kp).keep zz k1).ilOf,((G2.keep sz kp).keep zz k1).ilOf,((G3.keep sz kp).keep zz k1).ilOf,((G4.keep sz kp).keep zz k1).ilOf,(hC9.keep zz k2).ilOf,(hN9.keep zz k2).ilOf⟩
   ·rw[hb];exact hB.grown hG (by have:=hB.size;omega) (fun q hq=>by cases hq;omega)
end Go.Proofs.YtoaaklhpmhjhkabGreat
