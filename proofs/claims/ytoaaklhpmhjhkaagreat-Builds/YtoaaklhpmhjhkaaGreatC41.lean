import Derived.Test.YtoaaklhpmhjhkaaGreatC40
set_option maxRecDepth 100000
set_option maxHeartbeats 4000000
set_option linter.all false
namespace Go.Proofs.YtoaaklhpmhjhkaaGreat
open Go.RowKit
open Bm
theorem y0D:∃i,Tryz.prog.info? 94=some i/\i.zero=some (.pointer none)/\i.size=1/\i.bytes=8:=by
 have h1:(Tryz.prog.info? 94).isSome=true:=by kernel_rfl
 obtain⟨i,hi⟩:=Option.isSome_iff_exists.1 h1;refine⟨i,hi,?_,?_,?_⟩
 ·have:((Tryz.prog.info? 94).bind (·.zero))=some (.pointer none):=by kernel_rfl
  rw[hi]at this;exact this
 ·have:((Tryz.prog.info? 94).map (·.size))=some 1:=by kernel_rfl
  rw[hi]at this;simpa using this
 ·have:((Tryz.prog.info? 94).map (·.bytes))=some 8:=by kernel_rfl
  rw[hi]at this;simpa using this
theorem q4K:∃i,Tryz.prog.info? 23=some i/\i.zero=some (.slice none 0 0)/\i.size=1/\i.bytes=24:=by
 have h1:(Tryz.prog.info? 23).isSome=true:=by kernel_rfl
 obtain⟨i,hi⟩:=Option.isSome_iff_exists.1 h1;refine⟨i,hi,?_,?_,?_⟩
 ·have:((Tryz.prog.info? 23).bind (·.zero))=some (.slice none 0 0):=by kernel_rfl
  rw[hi]at this;exact this
 ·have:((Tryz.prog.info? 23).map (·.size))=some 1:=by kernel_rfl
  rw[hi]at this;simpa using this
 ·have:((Tryz.prog.info? 23).map (·.bytes))=some 24:=by kernel_rfl
  rw[hi]at this;simpa using this
def OwnV (base:Nat) (te:TypeId) (v:Value) (l:List Value) (w:World):Prop:=w.ownsRow base te 1 v l.length l
theorem OwnV.nil (base:Nat) (te:TypeId) (w:World):OwnV base te (.slice none 0 0) [] w:=⟨rfl,Or.inl ⟨rfl,rfl⟩⟩
variable {a : Act}{ops : Array Oper}{Q : Exit → Act → World → Prop}{rest : List Oper}{L0 L3 lx : List Value}{N P R b base cap g gb i ib k n n0 tb : Nat}{ls : Nat → List Value}{Ns cp sk tr xb : Nat → Nat}{E : Nat → Nat → Bool}{nx : Nat → Nat → Int}{X X' : Nat → Prop}{vs : Nat → Value}{o : Oper}{v : Value}{w w' w0 w1 : World}
theorem OwnV.form {te:TypeId}{l:List Value} (h:OwnV base te v l w):∃ad cap,v=.slice ad l.length cap/\∀i u,l[i]?=some u->∃g,ad=some ⟨g,0,none⟩/\w.cell? ⟨g,i,none⟩=some u:=by
 rcases h.2 with ⟨rfl,h0⟩|⟨g,cap,cur,rfl,h1,h2,h3⟩
 ·refine⟨none,0,by rw[h0],fun i u hi=>?_⟩;have:=(List.getElem?_eq_some_iff.1 hi).1;omega
 ·refine⟨some ⟨g,0,none⟩,cap,rfl,fun i u hi=>⟨g,rfl,?_⟩⟩;have hx:=h.cells (g:=g) rfl i u hi;rw[Addr.add_lit,Nat.zero_add]at hx;exact hx
theorem OwnV.il {te:TypeId}{l:List Nat} (h:OwnV base te v (l.map fun x:Nat=>.int .i64 (x:Int)) w):∃ad cap,v=.slice ad l.length cap/\IL ad (fun i=>((l.getD i 0:Nat):Int)) l.length w:=by
 obtain⟨ad,cap,e,hc⟩:=h.form;rw[List.length_map]at e;refine⟨ad,cap,e,fun i hi=>?_⟩;obtain⟨x,hx⟩:∃x,l[i]?=some x:=⟨_,List.getElem?_eq_getElem hi⟩;obtain⟨g,e1,e2⟩:=hc i (.int .i64 (x:Int)) (by rw[List.getElem?_map,hx];rfl);refine⟨g,0,e1,?_⟩;rw[Nat.zero_add,e2];simp only[List.getD_eq_getElem?_getD,hx,Option.getD_some]
theorem q0t (ts te:TypeId) {z:Value}{bs:Nat} (hund:Tryz.prog.underlying ts=some (.slice te)) (hinf:∃i,Tryz.prog.info? te=some i/\i.zero=some z/\i.size=1/\i.bytes=bs) (hz:z.cells.size=1) (hbs:bs<=24)
  (hgd:o.guard=none) (s x:Operand) (ho:o.op=.call { callee:=.builtin .append,args:=#[s,x],argTypes:=#[ts,ts] }) (base:Nat)
  (v:Value) (l:List Value) (hs:a.eval s=v) (hown:OwnV base te v l w) (hn:l.length<=1000000)
  (B:Nat) (t:Value) (ht:t.oneCell'=true) (hx:a.eval x=.slice (some ⟨B,0,none⟩) 1 1) (hnews:w.cell? ⟨B,0,none⟩=some t) (hbase:base<=w.heap.size) (H:Nat) (hH:w.heap.size=H)
  (h:∀g cap w',OwnV base te (.slice (some ⟨g,0,none⟩) (l.length+1) cap) (l++[t]) w'->w.grownBy w' v.ownBlock->(v.ownBlock=some g\/g=H)->g<w'.heap.size->wpList Tryz.prog ops Q rest (a.put o.dst (.slice (some ⟨g,0,none⟩) (l.length+1) cap)) w'):wpList Tryz.prog ops Q (o::rest) a w:=by
 obtain⟨i,hi,hz0,hz1,hz2⟩:=hinf;refine wpList_append_lies w hgd s x ts ho base te i z 1 bs hund hi hz0 hz1 hz2 hz (by omega) v l.length l hs hown ⟨B,0,none⟩ 1 1 [t] hx rfl (fun j u hu=>?_) (by simp[ht]) (by omega) (by unfold maxLen;omega) (by have:(l.length+1)*bs<=1000001*24:=Nat.mul_le_mul (by omega) hbs;omega) hbase H hH ?_
 ·rw[Addr.add_lit,Nat.zero_add];cases j with
  |zero=>simp at hu;subst hu;exact hnews
  |succ j=>simp at hu
 ·intro g cap w' h1 h2 h3 h4;refine h g cap w' ?_ h2 h3 h4;unfold OwnV;rw[List.length_append];exact h1
def gTy:Nat->TypeId
 |0=>94
 |1=>3
 |2=>3
 |3=>23
 |_=>78
def upV {α:Type} (f:Nat->α) (i:Nat) (x:α) (j:Nat):α:=if j=i then x else f j
theorem q0i {α:Type} (f:Nat->α) (i:Nat) (x:α):upV f i x i=x:=by simp[upV]
theorem q0f {α:Type} (f:Nat->α) {i j:Nat} (x:α) (h:j≠i):upV f i x j=f j:=by simp[upV,h]
structure G5 (gb base n:Nat) (ty:Nat->TypeId) (vs:Nat->Value) (ls:Nat->List Value) (X:Nat->Prop) (w:World):Prop where
 c:TC gb ((List.range n).map vs) w
 o:∀i,i<n->OwnV base (ty i) (vs i) (ls i) w
 d:∀i j k,i<n->j<n->i≠j->(vs i).ownBlock=some k->(vs j).ownBlock≠some k
 x:∀k,X k->k<w.heap.size/\k≠gb/\∀i,i<n->(vs i).ownBlock≠some k
 g:gb<base
theorem G5.cell {ty:Nat->TypeId} (h:G5 gb base n ty vs ls X w) {i:Nat} (hi:i<n):w.cell? ⟨gb,i,none⟩=some (vs i)/\w.frozen? ⟨gb,i,none⟩=false:=h.c i (vs i) (by simp[hi])
theorem G5.lt {ty:Nat->TypeId} (h:G5 gb base n ty vs ls X w) (hn:0<n):gb<w.heap.size:=World.block_lt_of_cell? w _ (h.cell hn).1
theorem G5.keep {ty:Nat->TypeId} (h:G5 gb base n ty vs ls X w) (h0:w'.heap[gb]?=w.heap[gb]?) (hk:∀i k,i<n->(vs i).ownBlock=some k->w'.heap[k]?=w.heap[k]?) (hx:∀k,X' k->k<w'.heap.size/\k≠gb/\∀i,i<n->(vs i).ownBlock≠some k):G5 gb base n ty vs ls X' w':=
 ⟨h.c.block h0,fun i hi=>q0R (h.o i hi) (fun k hk'=>hk i k hi hk'),h.d,hx,h.g⟩
theorem G5.below {ty:Nat->TypeId} (h:G5 gb base n ty vs ls X w) (hn:0<n) (hW:Below w.heap.size w w'):G5 gb base n ty vs ls X w':=
 h.keep (hW.block _ (h.lt hn)) (fun i k hi hk=>hW.block k ((h.o i hi).lt k hk).2) (fun k hk=>⟨by have:=(h.x k hk).1;have:=hW.size;omega,(h.x k hk).2⟩)
theorem G5.more {ty:Nat->TypeId} (h:G5 gb base n ty vs ls X w) (hx:∀k,X' k->X k\/(k<w.heap.size/\k≠gb/\∀i,i<n->(vs i).ownBlock≠some k)):G5 gb base n ty vs ls X' w:=
 ⟨h.c,h.o,h.d,fun k hk=>by
  rcases hx k hk with h1|h1
  ·exact h.x k h1
  ·exact h1,h.g⟩
theorem q6P (hi:i<n) (v:Value):((List.range n).map vs).set i v=(List.range n).map (upV vs i v):=by
 refine List.ext_getElem? (fun j=>?_);by_cases hj:j<n
 ·by_cases e:j=i
  ·subst e;rw[List.getElem?_set_self (by simpa using hj)];simp[hj,q0i]
  ·rw[List.getElem?_set_ne (fun q=>e q.symm)];simp[hj,q0f vs v e]
 ·rw[List.getElem?_eq_none (by simp;omega),List.getElem?_eq_none (by simp;omega)]
theorem G5.app {gb base n:Nat}{ty:Nat->TypeId}{vs:Nat->Value}{ls:Nat->List Value}{X:Nat->Prop}{w w5:World} (h:G5 gb base n ty vs ls X w) {i:Nat} (hi:i<n) {t:Value}{g len cap:Nat} (hg:w.grownBy w5 (vs i).ownBlock) (ho:OwnV base (ty i) (.slice (some ⟨g,0,none⟩) len cap) (ls i++[t]) w5) (hb:(vs i).ownBlock=some g\/g=w.heap.size):
  G5 gb base n ty (upV vs i (.slice (some ⟨g,0,none⟩) len cap)) (upV ls i (ls i++[t])) X (w5.setCell ⟨gb,i,none⟩ (.slice (some ⟨g,0,none⟩) len cap))/\AgX X w (w5.setCell ⟨gb,i,none⟩ (.slice (some ⟨g,0,none⟩) len cap))/\w.heap.size<=(w5.setCell ⟨gb,i,none⟩ (.slice (some ⟨g,0,none⟩) len cap)).heap.size /\
  (∀k,k<w.heap.size->k≠gb->(vs i).ownBlock≠some k->(w5.setCell ⟨gb,i,none⟩ (.slice (some ⟨g,0,none⟩) len cap)).heap[k]?=w.heap[k]?):=by
 have hgl:=h.lt (by omega);have hgg:=h.g;have hgo:=(ho.lt g rfl).1;obtain⟨w6,h6⟩:∃w6,w6=w5.setCell ⟨gb,i,none⟩ (.slice (some ⟨g,0,none⟩) len cap):=⟨_,rfl⟩;have hb6:∀k,k≠gb->w6.heap[k]?=w5.heap[k]?:=fun k hk=>by rw[h6];exact Below.heap_setCell w5 ⟨gb,i,none⟩ _ k (fun e=>hk e)
 have hs6:w6.heap.size=w5.heap.size:=by rw[h6,World.size_setCell]
 have hs5:=hg.size;have hkeep:∀k,k<w.heap.size->k≠gb->(vs i).ownBlock≠some k->w6.heap[k]?=w.heap[k]?:=fun k h1 h2 h3=>by rw[hb6 k h2,hg.block k h1 (fun e=>h3 e.symm)]
 have hgbn:∀j,j<n->∀k,(vs j).ownBlock=some k->k≠gb:=fun j hj k hk=>by have:=((h.o j hj).lt k hk).1;omega
 have hgb5:w5.heap[gb]?=w.heap[gb]?:=hg.block gb hgl (fun e=>hgbn i hi gb e.symm rfl);rw[<-h6];refine⟨⟨?_,fun j hj=>?_,fun j l k hj hl hjl hk=>?_,fun k hk=>?_,hgg⟩,fun k hk=>hkeep k (h.x k hk).1 (h.x k hk).2.1 ((h.x k hk).2.2 i hi),by omega,hkeep⟩
 ·rw[h6,<-q6P hi];exact(h.c.block hgb5).set i (by simpa using hi) _
 ·by_cases e:j=i
  ·subst e;rw[q0i,q0i];exact q0R ho (fun k hk=>hb6 k (by
     have hk':g=k:=Option.some.inj hk;omega))
  ·rw[q0f _ _ e,q0f _ _ e];exact q0R (h.o j hj) (fun k hk=>hkeep k ((h.o j hj).lt k hk).2 (hgbn j hj k hk) (fun e2=>h.d j i k hj hi e hk e2))
 ·by_cases e1:j=i
  ·subst e1;rw[q0i]at hk;have hk':g=k:=Option.some.inj hk;rw[q0f _ _ (fun e=>hjl e.symm)];intro e2;rcases hb with h1|h1
   ·exact h.d j l k hj hl hjl (hk'▸h1) e2
   ·have:=((h.o l hl).lt k e2).2;omega
  ·rw[q0f _ _ e1]at hk;by_cases e2:l=i
   ·subst e2;rw[q0i];intro e3;have hk':g=k:=Option.some.inj e3;rcases hb with h1|h1
    ·exact h.d j l k hj hl hjl hk (hk'▸h1)
    ·have:=((h.o j hj).lt k hk).2;omega
   ·rw[q0f _ _ e2];exact h.d j l k hj hl hjl hk
 ·refine⟨by have:=(h.x k hk).1;omega,(h.x k hk).2.1,fun j hj=>?_⟩;by_cases e:j=i
  ·subst e;rw[q0i];intro e3;have hk':g=k:=Option.some.inj e3;rcases hb with h1|h1
   ·exact(h.x k hk).2.2 j hj (hk'▸h1)
   ·have:=(h.x k hk).1;omega
  ·rw[q0f _ _ e];exact(h.x k hk).2.2 j hj
variable {T : Nat → Nd}
theorem TRX.mono {m:Lie} (h:TRX X tb T N g cap m w) (hs:∀k,X' k->k<w.heap.size) (hx:∀k,X k->X' k):TRX X' tb T N g cap m w:=
 ⟨hs,fun w' h1 h2=>h.t w' (fun k hk=>h1 k (hx k hk)) h2⟩
def intN (x:Nat):Value:=.int .i64 (x:Int)
structure Pls (Ts:Nat->Nat->Nd) (Ns:Nat->Nat) (es:Nat->Rx) (ti nd:List Nat) (c L:Nat):Prop where
 a:ti.length=L
 b:nd.length=L
 p:∀p,p<L->ti.getD p 0<c/\nd.getD p 0<Ns (ti.getD p 0)/\(Ts (ti.getD p 0) (nd.getD p 0)).kind=0/\p=netN es (ti.getD p 0)+clN (Ts (ti.getD p 0)) (nd.getD p 0)
theorem Pls.nil (Ts:Nat->Nat->Nd) (Ns:Nat->Nat) (es:Nat->Rx):Pls Ts Ns es [] [] 0 0:=⟨rfl,rfl,fun p hp=>by omega⟩
variable {Ts : Nat → Nat → Nd}{es : Nat → Rx}
theorem Pls.tree {ti nd:List Nat}{c L:Nat} (h:Pls Ts Ns es ti nd c L) (T:Nat->Nd) (N:Nat):Pls (upV Ts c T) (upV Ns c N) es ti nd (c+1) L:=
 ⟨h.a,h.b,fun p hp=>by
  obtain⟨h1,h2,h3,h4⟩:=h.p p hp;have e:ti.getD p 0≠c:=by omega
  rw[q0f _ _ e,q0f _ _ e];exact⟨by omega,h2,h3,h4⟩⟩
theorem q3p {l:List Nat}{p:Nat} (h:p<l.length) (x:Nat):(l++[x]).getD p 0=l.getD p 0:=by
 simp only[List.getD_eq_getElem?_getD,List.getElem?_append_left h]
theorem q3q (l:List Nat) (x:Nat):(l++[x]).getD l.length 0=x:=by
 simp[List.getD_eq_getElem?_getD]
theorem Pls.letter {ti nd:List Nat}{c L:Nat} (h:Pls Ts Ns es ti nd (c+1) L) (hk:k<Ns c) (h0:(Ts c k).kind=0) (hL:L=netN es c+clN (Ts c) k):Pls Ts Ns es (ti++[c]) (nd++[k]) (c+1) (L+1):=
 ⟨by simp[h.a],by simp[h.b],fun p hp=>by
  by_cases e:p<L
  ·rw[q3p (by rw[h.a];exact e),q3p (by rw[h.b];exact e)];exact h.p p e
  ·have hpL:p=L:=by omega
   subst hpL;have e1:(ti++[c]).getD p 0=c:=by rw[<-h.a];exact q3q ti c
   have e2:(nd++[k]).getD p 0=k:=by rw[<-h.b];exact q3q nd k
   rw[e1,e2];exact⟨by omega,hk,h0,hL⟩⟩
def zeroI (n:Nat):List Value:=(List.range n).map fun _=>.int .i64 0
theorem q1M (w:World) (n:Nat) (hn:n<=1000000):(Instr.makeSlice 23 (.int .i64 (n:Int)) (.int .i64 (n:Int))).run Tryz.prog w=.ok (.slice (some ⟨w.heap.size,0,none⟩) n n) (w.alloc (.cells (zeroI n).toArray 3)):=by
 obtain⟨i,hi,hz,hs,hb⟩:=eInfoInt;have h:=run_make (P:=Tryz.prog) w 23 3 i (.int .i64 0) Tryz.underlying23 hi hz .i64 .i64 n n (by omega) (by omega) (by rw[hb];omega) (by omega);rw[hs]at h;simp only[Int.toNat_natCast,Nat.mul_one]at h;rw[show(Value.int .i64 0).cells=#[.int .i64 0] from rfl,q3n]at h;exact h
def inl (f:Nat->Int) (n:Nat):List Value:=(List.range n).map fun i=>.int .i64 (f i)
theorem q1d (f:Nat->Int) (n:Nat):(inl f n).length=n:=by simp[inl]
theorem q1l (f:Nat->Int) {n i:Nat} (h:i<n):(inl f n)[i]?=some (.int .i64 (f i)):=by simp[inl,h]
theorem q0C {f g:Nat->Int} (h:∀i,i<n->f i=g i):inl f n=inl g n:=by
 unfold inl;exact List.map_congr_left (fun i hi=>by rw[h i (by simpa using hi)])
theorem q1B (f:Nat->Int) (n i:Nat) (x:Int):(inl f n).set i (.int .i64 x)=inl (fun j=>if j=i then x else f j) n:=by
 refine List.ext_getElem? (fun j=>?_);by_cases hj:j<n
 ·rw[q1l _ hj];by_cases e:j=i
  ·subst e;rw[List.getElem?_set_self (by rw[q1d];exact hj)];simp
  ·rw[List.getElem?_set_ne (fun q=>e q.symm),q1l _ hj];simp[e]
 ·rw[List.getElem?_eq_none (by simp[q1d];omega),List.getElem?_eq_none (by rw[q1d];omega)]
theorem y2w {f:Nat->Int} (h:TC b (inl f n) w):IL (some ⟨b,0,none⟩) f n w:=fun i hi=>⟨b,0,rfl,by rw[Nat.zero_add];exact(h i _ (q1l f hi)).1⟩
def ixT (T:Nat->Nd) (n0 k m:Nat):Int:=if m<k/\(T m).kind=0 then ((n0+clN T m:Nat):Int) else 0
structure GW (gb base:Nat) (i:Nat) (es:Nat->Rx) (tr ad cp xb:Nat->Nat) (ms:Nat->Lie) (Ts:Nat->Nat->Nd) (Ns:Nat->Nat) (ti nd:List Nat) (vs:Nat->Value) (ls:Nat->List Value) (X:Nat->Prop) (w0 w:World):Prop where
 g:G5 gb base 5 gTy vs ls X w
 l0:ls 0=(List.range i).map fun r=>.pointer (some ⟨tr r,0,none⟩)
 l1:ls 1=ti.map intN
 l2:ls 2=nd.map intN
 l3:ls 3=(List.range i).map fun r=>.slice (some ⟨xb r,0,none⟩) (Ns r) (Ns r)
 l4:ls 4=[]
 t:∀r,r<i->Tre (Ts r) (Ns r)/\1<=Ns r/\Ns r<=20000/\Good (Ts r) (Ns r) 0 (Ns r-1) (es r)/\TRX X (tr r) (Ts r) (Ns r) (ad r) (cp r) (ms r) w
 x:∀r,r<i->∀w',AgX X w w'->w.heap.size<=w'.heap.size->IL (some ⟨xb r,0,none⟩) (ixI es Ts r) (Ns r) w'
 p:Pls Ts Ns es ti nd i (netN es i)
 b:Below w0.heap.size w0 w
 s:w0.heap.size<=gb
structure IS (gb base ib:Nat) (lx:List Value) (vs:Nat->Value) (ls:Nat->List Value) (X:Nat->Prop) (w0 w1 w:World):Prop where
 g:G5 gb base 5 gTy vs ls X w
 x:TC ib lx w
 l:ib<w.heap.size
 d:∀j,j<5->(vs j).ownBlock≠some ib
 n:¬X ib/\ib≠gb
 a:AgX X w1 w
 z:w1.heap.size<=w.heap.size
 b:Below w0.heap.size w0 w
 s:w0.heap.size<=gb/\w0.heap.size<=ib
theorem IS.below (h:IS gb base ib lx vs ls X w0 w1 w) (hW:Below w.heap.size w w'):IS gb base ib lx vs ls X w0 w1 w':=
 ⟨h.g.below (by omega) hW,h.x.block (hW.block ib h.l),by have:=hW.size;have:=h.l;omega,h.d,h.n,h.a.trans (fun k hk=>hW.block k (h.g.x k hk).1),by have:=hW.size;have:=h.z;omega,h.b.trans (hW.mono h.b.size),h.s⟩
theorem IS.put {gb base ib:Nat}{lx:List Value}{vs:Nat->Value}{ls:Nat->List Value}{X:Nat->Prop}{w0 w1 w:World} (h:IS gb base ib lx vs ls X w0 w1 w) {k:Nat} (hk:k<lx.length) (u:Value):IS gb base ib (lx.set k u) vs ls X w0 w1 (w.setCell ⟨ib,k,none⟩ u):=by
 have hb:∀q,q≠ib->(w.setCell ⟨ib,k,none⟩ u).heap[q]?=w.heap[q]?:=fun q hq=>Below.heap_setCell w ⟨ib,k,none⟩ _ q (fun e=>hq e)
 have hs:(w.setCell ⟨ib,k,none⟩ u).heap.size=w.heap.size:=World.size_setCell ..;refine⟨h.g.keep (hb gb (fun e=>h.n.2 e.symm)) (fun i q hi hq=>hb q (fun e=>h.d i hi (e▸hq))) (fun q hq=>⟨by rw[hs];exact(h.g.x q hq).1,(h.g.x q hq).2⟩),h.x.set k hk u,by rw[hs];exact h.l,h.d,h.n,h.a.trans (fun q hq=>hb q (fun e=>h.n.1 (e▸hq))),by rw[hs];exact h.z,h.b.setCell (p:=⟨ib,k,none⟩) h.s.2 u,h.s⟩
theorem IS.app {gb base ib:Nat}{lx:List Value}{vs:Nat->Value}{ls:Nat->List Value}{X:Nat->Prop}{w0 w1 w w5:World} (h:IS gb base ib lx vs ls X w0 w1 w) {i:Nat} (hi:i<5) {t:Value}{g len cap:Nat} (hg:w.grownBy w5 (vs i).ownBlock) (ho:OwnV base (gTy i) (.slice (some ⟨g,0,none⟩) len cap) (ls i++[t]) w5) (hb:(vs i).ownBlock=some g\/g=w.heap.size):
  IS gb base ib lx (upV vs i (.slice (some ⟨g,0,none⟩) len cap)) (upV ls i (ls i++[t])) X w0 w1 (w5.setCell ⟨gb,i,none⟩ (.slice (some ⟨g,0,none⟩) len cap)):=by
 obtain⟨G6,A6,s6,k6⟩:=h.g.app hi hg ho hb;have hgb:=h.g.g;have hs:=h.s;refine⟨G6,h.x.block (k6 ib h.l h.n.2 (h.d i hi)),by have:=h.l;omega,fun j hj=>?_,h.n,h.a.trans A6,by have:=h.z;omega,?_,h.s⟩
 ·by_cases e:j=i
  ·subst e;rw[q0i];intro e2;have e3:g=ib:=Option.some.inj e2;rcases hb with h1|h1
   ·exact h.d j hj (e3▸h1)
   ·have:=h.l;omega
  ·rw[q0f _ _ e];exact h.d j hj
 ·have B5:Below w0.heap.size w0 w5:=h.b.grown hg (by have:=h.l;omega) (fun q hq=>by have:=((h.g.o i hi).lt q hq).1;omega);exact B5.setCell (p:=⟨gb,i,none⟩) hs.1 _
structure GI (gb base i:Nat) (es:Nat->Rx) (ib k:Nat) (L0 L3:List Value) (Ts:Nat->Nat->Nd) (Ns:Nat->Nat) (ti nd:List Nat) (vs:Nat->Value) (ls:Nat->List Value) (X:Nat->Prop) (w0 w1 w:World):Prop where
 st:IS gb base ib (inl (ixT (Ts i) (netN es i) k) (Ns i)) vs ls X w0 w1 w
 l0:ls 0=L0
 l1:ls 1=ti.map intN
 l2:ls 2=nd.map intN
 l3:ls 3=L3
 l4:ls 4=[]
 p:Pls Ts Ns es ti nd (i+1) (netN es i+clN (Ts i) k)
theorem y1F (hk:(T k).kind≠0) (m:Nat):ixT T n0 (k+1) m=ixT T n0 k m:=by
 unfold ixT;by_cases e:m=k
 ·subst e;rw[if_neg (fun q=>hk q.2),if_neg (fun q=>hk q.2)]
 ·by_cases e2:m<k
  ·simp only[e2,show m<k+1 by omega]
  ·simp only[e2,show ¬m<k+1 by omega]
theorem y2O (hk:(T k).kind=0) (m:Nat):ixT T n0 (k+1) m=if m=k then ((n0+clN T k:Nat):Int) else ixT T n0 k m:=by
 unfold ixT;by_cases e:m=k
 ·subst e;rw[if_pos ⟨by omega,hk⟩,if_pos rfl]
 ·rw[if_neg e];by_cases e2:m<k
  ·simp only[e2,show m<k+1 by omega]
  ·simp only[e2,show ¬m<k+1 by omega]
theorem GI.skip {ti nd:List Nat} (h:GI gb base i es ib k L0 L3 Ts Ns ti nd vs ls X w0 w1 w) (hk:(Ts i k).kind≠0):GI gb base i es ib (k+1) L0 L3 Ts Ns ti nd vs ls X w0 w1 w:=
 ⟨by rw[q0C (fun m _=>y1F hk m)];exact h.st,h.l0,h.l1,h.l2,h.l3,h.l4,by simp only[clN,if_neg hk,Nat.add_zero];exact h.p⟩
theorem GI.letter {ti nd:List Nat}{vs':Nat->Value} (h:GI gb base i es ib k L0 L3 Ts Ns ti nd vs ls X w0 w1 w) (hk:(Ts i k).kind=0) (hkN:k<Ns i)
  (hS:IS gb base ib ((inl (ixT (Ts i) (netN es i) k) (Ns i)).set k (.int .i64 ((netN es i+clN (Ts i) k:Nat):Int))) vs' (upV (upV ls 1 (ls 1++[intN i])) 2 (ls 2++[intN k])) X w0 w1 w'):GI gb base i es ib (k+1) L0 L3 Ts Ns (ti++[i]) (nd++[k]) vs' (upV (upV ls 1 (ls 1++[intN i])) 2 (ls 2++[intN k])) X w0 w1 w':=by
 refine⟨?_,?_,?_,?_,?_,?_,?_⟩
 ·rw[q1B]at hS;rw[q0C (fun m _=>y2O hk m)];exact hS
 ·rw[q0f _ _ (by omega),q0f _ _ (by omega)];exact h.l0
 ·rw[q0f _ _ (by omega),q0i,h.l1,List.map_append];rfl
 ·rw[q0i,h.l2,List.map_append];rfl
 ·rw[q0f _ _ (by omega),q0f _ _ (by omega)];exact h.l3
 ·rw[q0f _ _ (by omega),q0f _ _ (by omega)];exact h.l4
 ·simp only[clN,if_pos hk];rw[<-Nat.add_assoc];exact h.p.letter hkN hk rfl
variable {ms : Nat → Lie}
theorem GW.next {ad:Nat->Nat}{ti nd:List Nat} (h:GW gb base i es tr ad cp xb ms Ts Ns ti nd vs ls X w0 w)
  {tb g cap N:Nat}{m:Lie}{T:Nat->Nd}{X1 X2:Nat->Prop}{ib:Nat}{ti' nd':List Nat}{vs':Nat->Value}{ls':Nat->List Value}{w1 w2:World} (h1:Tre T N) (h2:1<=N) (h3:N<=20000) (h4:Good T N 0 (N-1) (es i)) (h5:TRX X1 tb T N g cap m w1) (hX:∀k,X k->X1 k) (hA:AgX X w w1) (hs:w.heap.size<=w1.heap.size)
  (hG:GI gb base i es ib N ((List.range (i+1)).map fun r=>.pointer (some ⟨upV tr i tb r,0,none⟩)) (ls 3) (upV Ts i T) (upV Ns i N) ti' nd' vs' ls' X1 w0 w1 w2)
  {vs3:Nat->Value}{w3:World} (hX2:∀k,X2 k<->X1 k\/k=ib) (hS:IS gb base ib (inl (ixT (upV Ts i T i) (netN es i) N) (upV Ns i N i)) vs3 (upV ls' 3 (ls' 3++[.slice (some ⟨ib,0,none⟩) N N])) X1 w0 w1 w3):
  GW gb base (i+1) es (upV tr i tb) (upV ad i g) (upV cp i cap) (upV xb i ib) (upV ms i m) (upV Ts i T) (upV Ns i N) ti' nd' vs3 (upV ls' 3 (ls' 3++[.slice (some ⟨ib,0,none⟩) N N])) X2 w0 w3:=by
 have hA2:=hA.trans (fun k hk=>hS.a k (hX k hk));have hz:w.heap.size<=w3.heap.size:=by have:=hS.z;omega
 have hX2s:∀k,X2 k->k<w3.heap.size:=fun k hk=>by
  rcases (hX2 k).1 hk with h|h
  ·exact(hS.g.x k h).1
  ·rw[h];exact hS.l
 refine⟨hS.g.more (fun k hk=>?_),?_,?_,?_,?_,?_,fun r hr=>?_,fun r hr w' ha hsz=>?_,?_,hS.b,hS.s.1⟩
 ·rcases (hX2 k).1 hk with h|h
  ·exact Or.inl h
  ·subst h;exact Or.inr ⟨hS.l,hS.n.2,fun j hj=>hS.d j hj⟩
 ·rw[q0f _ _ (by omega)];exact hG.l0
 ·rw[q0f _ _ (by omega)];exact hG.l1
 ·rw[q0f _ _ (by omega)];exact hG.l2
 ·rw[q0i,hG.l3,h.l3,List.range_succ,List.map_append];congr 1
  ·refine List.map_congr_left (fun r hr=>?_);have hr':r≠i:=by have:=List.mem_range.1 hr;omega
   rw[q0f _ _ hr',q0f _ _ hr']
  ·simp[q0i]
 ·rw[q0f _ _ (by omega)];exact hG.l4
 ·by_cases e:r=i
  ·subst e;simp only[q0i];exact⟨h1,h2,h3,h4,(h5.keep hS.a hS.z).mono hX2s (fun k hk=>(hX2 k).2 (Or.inl hk))⟩
  ·obtain⟨t1,t2,t3,t4,t5⟩:=h.t r (by omega);simp only[q0f _ _ e];exact⟨t1,t2,t3,t4,(t5.keep hA2 hz).mono hX2s (fun k hk=>(hX2 k).2 (Or.inl (hX k hk)))⟩
 ·by_cases e:r=i
  ·subst e;rw[q0i,q0i];have hx:=hS.x.block (ha ib ((hX2 ib).2 (Or.inr rfl)));have:=y2w hx;rw[q0i,q0i]at this;intro q hq;obtain⟨b,o,e1,e2⟩:=this q hq;refine⟨b,o,e1,?_⟩;rw[e2];unfold ixT ixI ixR;rw[q0i];simp only[hq,true_and]
  ·rw[q0f _ _ e,q0f _ _ e];have:=h.x r (by omega) w' (hA2.trans (fun k hk=>ha k ((hX2 k).2 (Or.inl (hX k hk))))) (by omega);intro q hq;obtain⟨b,o,e1,e2⟩:=this q hq;refine⟨b,o,e1,?_⟩;rw[e2];unfold ixI ixR;rw[q0f _ _ e]
 ·have:=hG.p;rw[q0i]at this;have hc:=h4.cl;rw[Nat.sub_add_cancel h2]at hc;simp only[clN,Nat.zero_add]at hc;rw[hc]at this;exact this
structure GNx (gb base R P:Nat) (es:Nat->Rx) (tr ad cp xb sk:Nat->Nat) (ms:Nat->Lie) (Ts:Nat->Nat->Nd) (Ns:Nat->Nat) (ti nd:List Nat) (p:Nat) (vs:Nat->Value) (ls:Nat->List Value) (X:Nat->Prop) (w0 w:World):Prop where
 g:G5 gb base 5 gTy vs ls X w
 l0:ls 0=(List.range R).map fun r=>.pointer (some ⟨tr r,0,none⟩)
 l1:ls 1=ti.map intN
 l2:ls 2=nd.map intN
 l3:ls 3=(List.range R).map fun r=>.slice (some ⟨xb r,0,none⟩) (Ns r) (Ns r)
 l4:ls 4=(List.range p).map fun q=>.slice (some ⟨sk q,0,none⟩) (P+R) (P+R)
 t:∀r,r<R->TRX X (tr r) (Ts r) (Ns r) (ad r) (cp r) (ms r) w
 x:∀r,r<R->∀w',AgX X w w'->w.heap.size<=w'.heap.size->IL (some ⟨xb r,0,none⟩) (ixI es Ts r) (Ns r) w'
 n:∀q,q<p->∀w',AgX X w w'->w.heap.size<=w'.heap.size->BR (some ⟨sk q,0,none⟩) (nxR es Ts Ns (fun i=>ti.getD i 0) (fun i=>nd.getD i 0) P q) (P+R) w'
 b:Below w0.heap.size w0 w
 s:w0.heap.size<=gb
def gXX (gb:Nat) (vs:Nat->Value) (X:Nat->Prop) (k:Nat):Prop:=k=gb\/(∃j,j<5/\(vs j).ownBlock=some k)\/X k
theorem GNx.gx {ad:Nat->Nat}{ti nd:List Nat}{p:Nat} (h:GNx gb base R P es tr ad cp xb sk ms Ts Ns ti nd p vs ls X w0 w) (hti:ti.length=P):GX (gXX gb vs X) gb P R tr ad cp ms Ts Ns es w:=by
 have hg:∀w',AgX (gXX gb vs X) w w'->w.heap.size<=w'.heap.size->G5 gb base 5 gTy vs ls X w':=fun w' ha hs=>h.g.keep (ha gb (Or.inl rfl)) (fun i k hi hk=>ha k (Or.inr (Or.inl ⟨i,hi,hk⟩))) (fun k hk=>⟨by have:=(h.g.x k hk).1;omega,(h.g.x k hk).2⟩)
 have hx:∀w',AgX (gXX gb vs X) w w'->AgX X w w':=fun w' ha k hk=>ha k (Or.inr (Or.inr hk))
 refine⟨fun k hk=>?_,fun w' ha hs=>?_,fun w' ha hs=>?_,fun w' ha hs=>?_⟩
 ·rcases hk with h1|⟨j,hj,h1⟩|h1
  ·rw[h1];exact h.g.lt (by omega)
  ·exact((h.g.o j hj).lt k h1).2
  ·exact(h.g.x k h1).1
 ·have G:=hg w' ha hs;obtain⟨a,c,e,hc⟩:=(G.o 0 (by omega)).form;rw[h.l0]at e hc;simp only[List.length_map,List.length_range]at e;refine⟨a,c,by rw[(G.cell (i:=0) (by omega)).1,e],fun r hr=>?_⟩;obtain⟨g,e1,e2⟩:=hc r (.pointer (some ⟨tr r,0,none⟩)) (by simp[hr]);exact⟨g,0,e1,by rw[Nat.zero_add];exact e2,(h.t r hr).t w' (hx w' ha) hs⟩
 ·have G:=hg w' ha hs;obtain⟨a,c,e,hc⟩:=(G.o 1 (by omega)).form;rw[h.l1]at e;simp only[List.length_map,hti]at e;exact⟨a,c,by rw[(G.cell (i:=1) (by omega)).1,e]⟩
 ·have G:=hg w' ha hs;obtain⟨a,c,e,hc⟩:=(G.o 3 (by omega)).form;rw[h.l3]at e hc;simp only[List.length_map,List.length_range]at e;refine⟨a,c,by rw[(G.cell (i:=3) (by omega)).1,e],fun r hr=>?_⟩;obtain⟨g,e1,e2⟩:=hc r (.slice (some ⟨xb r,0,none⟩) (Ns r) (Ns r)) (by simp[hr]);exact⟨g,0,_,_,e1,by rw[Nat.zero_add];exact e2,h.x r hr w' (hx w' ha) hs⟩
theorem GNx.next {ad:Nat->Nat}{ti nd:List Nat}{p:Nat} (h:GNx gb base R P es tr ad cp xb sk ms Ts Ns ti nd p vs ls X w0 w)
  {w2 w3 w5:World}{F:Nat->Bool} (hB:Below w.heap.size w w2) (hT:TC w.heap.size (bl F (P+R)) w2) (hs2:w.heap.size<w2.heap.size) (hF:∀q,q<P+R->F q=nxR es Ts Ns (fun i=>ti.getD i 0) (fun i=>nd.getD i 0) P p q) (hW:Below w2.heap.size w2 w3)
  {g len cap:Nat} (hg:w3.grownBy w5 (vs 4).ownBlock) (ho:OwnV base (gTy 4) (.slice (some ⟨g,0,none⟩) len cap) (ls 4++[.slice (some ⟨w.heap.size,0,none⟩) (P+R) (P+R)]) w5) (hb:(vs 4).ownBlock=some g\/g=w3.heap.size):
  GNx gb base R P es tr ad cp xb (upV sk p w.heap.size) ms Ts Ns ti nd (p+1) (upV vs 4 (.slice (some ⟨g,0,none⟩) len cap)) (upV ls 4 (ls 4++[.slice (some ⟨w.heap.size,0,none⟩) (P+R) (P+R)])) (fun k=>X k\/k=w.heap.size) w0 (w5.setCell ⟨gb,4,none⟩ (.slice (some ⟨g,0,none⟩) len cap)):=by
 have G2:G5 gb base 5 gTy vs ls (fun k=>X k\/k=w.heap.size) w2:=(h.g.below (by omega) hB).more (fun k hk=>by
  rcases hk with h1|h1
  ·exact Or.inl h1
  ·subst h1;exact Or.inr ⟨hs2,by have:=h.g.lt (by omega);omega,fun j hj e=>by have:=((h.g.o j hj).lt _ e).2;omega⟩)
 obtain⟨G6,A6,s6,_⟩:=(G2.below (by omega) hW).app (i:=4) (by omega) hg ho hb;have s3:=hW.size;have A26:=AgX.trans (fun k hk=>hW.block k (G2.x k hk).1) A6;have AX:=AgX.trans (fun k hk=>hB.block k (h.g.x k hk).1) (fun k hk=>A26 k (Or.inl hk));have hX6:∀k,X k\/k=w.heap.size->k<(w5.setCell ⟨gb,4,none⟩ (.slice (some ⟨g,0,none⟩) len cap)).heap.size:=fun k hk=>(G6.x k hk).1
 have hbs:=h.b.size;have B3:Below w0.heap.size w0 w3:=h.b.trans ((hB.mono hbs).trans (hW.mono (by omega)));have B5:Below w0.heap.size w0 w5:=B3.grown hg B3.size (fun q hq=>by have:=((h.g.o 4 (by omega)).lt q hq).1;have:=h.g.g;have:=h.s;omega);refine⟨G6,?_,?_,?_,?_,?_,fun r hr=>((h.t r hr).keep AX (by omega)).mono hX6 (fun k hk=>Or.inl hk),fun r hr w' ha hsz=>h.x r hr w' (AX.trans (fun k hk=>ha k (Or.inl hk))) (by omega),fun q hq w' ha hsz=>?_,B5.setCell (p:=⟨gb,4,none⟩) h.s _,h.s⟩
 ·rw[q0f _ _ (by omega)];exact h.l0
 ·rw[q0f _ _ (by omega)];exact h.l1
 ·rw[q0f _ _ (by omega)];exact h.l2
 ·rw[q0f _ _ (by omega)];exact h.l3
 ·rw[q0i,h.l4,List.range_succ,List.map_append];congr 1
  ·refine List.map_congr_left (fun r hr=>?_);rw[q0f _ _ (by have:=List.mem_range.1 hr;omega)]
  ·simp[q0i]
 ·by_cases e:q=p
  ·subst e;rw[q0i];intro j hj;refine⟨w.heap.size,0,rfl,?_⟩;rw[Nat.zero_add,<-hF j hj];exact((hT.block ((ha _ (Or.inr rfl)).trans (A26 _ (Or.inr rfl)))) j _ (q0x _ hj)).1
  ·rw[q0f _ _ e];exact h.n q (by omega) w' (AX.trans (fun k hk=>ha k (Or.inl hk))) (by omega)
def GmPost (es:Nat->Rx) (R:Nat) (w:World) (ee:Ending) (w':World):Prop:=
 ∃X tr ad cp ms Ts Ns ti nd,ee=.returned (.pointer (some ⟨w.heap.size,0,none⟩))/\Gm R Ts Ns es ti nd/\(∀r,r<R->Ns r<=20000)/\GX X w.heap.size (netN es R) R tr ad cp ms Ts Ns es w'/\GR w.heap.size (netN es R) R tr Ts Ns ti nd w'/\NX w.heap.size (netN es R) R (nxR es Ts Ns ti nd (netN es R)) w'/\Below w.heap.size w w'/\w.heap.size<w'.heap.size
theorem GNx.post {ad:Nat->Nat}{ti nd:List Nat} (h:GNx gb base R P es tr ad cp xb sk ms Ts Ns ti nd P vs ls X w0 w) (hP:P=netN es R) (hgb:gb=w0.heap.size) (hGm:Gm R Ts Ns es (fun i=>ti.getD i 0) (fun i=>nd.getD i 0)) (hN:∀r,r<R->Ns r<=20000) (hti:ti.length=P) (hnd:nd.length=P):GmPost es R w0 (.returned (.pointer (some ⟨gb,0,none⟩))) w:=by
 have gx:=h.gx hti;subst hP;subst hgb;refine⟨_,tr,ad,cp,ms,Ts,Ns,_,_,rfl,hGm,hN,gx,⟨?_,?_,?_,fun p hp=>?_⟩,?_,h.b,h.g.lt (by omega)⟩
 ·obtain⟨a,c,e1,e2⟩:=gx.t w (AgX.refl _ _) (Nat.le_refl _);refine⟨a,c,e1,fun r hr=>?_⟩;obtain⟨b,o,e3,e4,e5⟩:=e2 r hr;exact⟨b,o,e3,e4,e5.tr⟩
 ·have o1:=h.g.o 1 (by omega);rw[h.l1]at o1;obtain⟨ad',cap',e,il⟩:=OwnV.il (l:=ti) o1;rw[hti]at e il;exact⟨ad',cap',by rw[(h.g.cell (i:=1) (by omega)).1,e],il⟩
 ·have o2:=h.g.o 2 (by omega);rw[h.l2]at o2;obtain⟨ad',cap',e,il⟩:=OwnV.il (l:=nd) o2;rw[hnd]at e il;exact⟨ad',cap',by rw[(h.g.cell (i:=2) (by omega)).1,e],il⟩
 ·obtain⟨h1,h2,h3,_⟩:=hGm.p p hp;exact⟨h1,h2,h3⟩
 ·obtain⟨a,c,e,hc⟩:=(h.g.o 4 (by omega)).form;rw[h.l4]at e hc;simp only[List.length_map,List.length_range]at e;refine⟨a,c,by rw[(h.g.cell (i:=4) (by omega)).1,e],fun p hp=>?_⟩;obtain⟨g,e1,e2⟩:=hc p (.slice (some ⟨sk p,0,none⟩) (netN es R+R) (netN es R+R)) (by simp[hp]);exact⟨g,0,_,_,e1,by rw[Nat.zero_add];exact e2,h.n p hp w (AgX.refl _ _) (Nat.le_refl _)⟩
end Go.Proofs.YtoaaklhpmhjhkaaGreat
namespace Go.Proofs.YtoaaklhpmhjhkaaGreat
open Bm
structure Pn (A:Aut) (E:Nat->Nat->Bool) (nx:Nat->Nat->Int):Prop where
 e:Eqv E 256
 k:A.K=(reps E 256).length
 x:∀i b,i<A.N->b<256->nx i b=A.to i (idx E b)
 g:A.Good
 b:Bfs A
variable {A : Aut}{i k n : Nat}{E : Nat → Nat → Bool}{nx : Nat → Nat → Int}
theorem Pn.kk (h:Pn A E nx) {b:Nat} (hb:b<256):idx E b<A.K:=by
 rw[h.k];exact idx_lt h.e hb
theorem Pn.lt (h:Pn A E nx) {i b:Nat} (hi:i<A.N) (hb:b<256):nx i b<A.N:=by
 rw[h.x i b hi hb];exact(h.g.rng i _ hi (h.kk hb)).2
theorem Pn.to (h:Pn A E nx) {i b:Nat} (hi:i<=A.N) (hb:b<256):toR A.N nx i b<=A.N/\st A (toR A.N nx i b)=if i=A.N then -1 else A.to i (idx E b):=by
 have hle:=q6M (fun h1=>h.lt h1 hb) hi;refine⟨hle,?_⟩;unfold toR;by_cases h1:i=A.N
 ·rw[if_pos (Or.inl h1),if_pos h1];unfold st;rw[if_pos rfl]
 ·have hi':i<A.N:=by omega
  have hr:=h.g.rng i _ hi' (h.kk hb);rw[if_neg h1];by_cases h2:nx i b<0
  ·rw[if_pos (Or.inr h2)];have:=h.x i b hi' hb;unfold st;rw[if_pos rfl];omega
  ·rw[if_neg (by omega)];have h3:=h.x i b hi' hb;unfold st;rw[if_neg (by omega)];omega
theorem y3r (hk:k<(reps E 256).length):∃b,(reps E 256)[k]?=some b/\b<256/\idx E b=k:=by
 refine⟨_,List.getElem?_eq_getElem hk,?_⟩;obtain⟨h1,h2,h3⟩:=reps_mem (List.getElem?_eq_getElem hk);exact⟨h1,by rw[idx_rep h2];exact h3⟩
theorem q8T (_hi:i<=A.N):ext A (st A i) []=ofR A.N A.vd i:=by
 unfold st ofR;by_cases h:i=A.N
 ·rw[if_pos h,if_pos h,ext_none _ _ (by omega)]
 ·rw[if_neg h,if_neg h,ext_nil]
theorem q5N (h:Pn A E nx) {t:Nat->Nat->Bool} (hT:AptT A.N A.vd nx (reps E 256) t) (hC:Clo A.N nx (reps E 256) t (A.N+1) 0) {i j:Nat} (hi:i<=A.N) (hj:j<=A.N):t i j=false<->Al A (st A i) (st A j):=by
 have hch:∀k,k<A.K->∃b,(reps E 256)[k]?=some b/\b<256/\idx E b=k:=fun k hk=>y3r (by rw[<-h.k];exact hk)
 let toN:Nat->Nat->Nat:=fun i k=>toR A.N nx i ((reps E 256).getD k 0)
 have htoN:∀i k b,(reps E 256)[k]?=some b->toN i k=toR A.N nx i b:=fun i k b hb=>by
  show toR A.N nx i ((reps E 256).getD k 0)=_;rw[List.getD_eq_getElem?_getD,hb];rfl
 have hto:∀i k,i<=A.N->k<A.K->toN i k<=A.N/\st A (toN i k)=if i=A.N then -1 else A.to i k:=fun i k hi hk=>by
  obtain⟨b,b1,b2,b3⟩:=hch k hk;rw[htoN i k b b1];have:=h.to hi b2;rw[b3]at this;exact this
 constructor
 ·intro hf w hw;refine pairs_al hto (fun i j hi hj hf=>?_) (fun i j k hi hj hk hf=>?_) w i j hw hi hj hf
  ·rw[q8T hi,q8T hj];by_cases e:ofR A.N A.vd i=ofR A.N A.vd j
   ·exact e
   ·have:=hT.base i j hi hj (by unfold t0;exact bne_iff_ne.2 e);rw[hf]at this;cases this
  ·obtain⟨b,b1,b2,_⟩:=hch k hk;rw[htoN i k b b1,htoN j k b b1];have key:∀a c,c<a->a<=A.N->t a c=false->t (toR A.N nx a b) (toR A.N nx c b)=false:=fun a c hca ha hf=>by
    have h1:=hC a c hca ha (Or.inl (by omega)) hf;unfold partR at h1;rw[List.take_length]at h1;have h2:=List.any_eq_false.1 h1 b (List.mem_of_getElem? b1);simpa using h2
   rcases Nat.lt_trichotomy i j with hlt|he|hgt
   ·have h1:=key j i hlt hj (by rw[hT.sym j i hj hi];exact hf);rw[hT.sym _ _ (h.to hi b2).1 (h.to hj b2).1];exact h1
   ·subst he;exact hT.irr _ (h.to hi b2).1
   ·exact key i j hgt hi hf
 ·intro hal;cases hf:t i j
  ·rfl
  ·exfalso;have hap:=hT.sub i j hi hj hf;have key:∀i j,Apt A.N A.vd nx (reps E 256) i j->¬Al A (st A i) (st A j):=fun i j hap=>by
    induction hap with
    |base hi hj h0=>
     intro hal;have:=hal [] (Kd.nil A);rw[q8T hi,q8T hj]at this;unfold t0 at h0;exact(bne_iff_ne.1 h0) this
    |step hi hj hb hx ih=>
     rename_i i j b;clear hx;obtain⟨k,hk,hkb⟩:=List.mem_iff_getElem.1 hb;have hk2:(reps E 256)[k]?=some b:=by rw[List.getElem?_eq_getElem hk,hkb]
     have hk3:k<A.K:=by rw[h.k];exact hk
     intro hal;refine ih (fun w hw=>?_);have e:∀i,i<=A.N->ext A (st A i) (k::w)=ext A (st A (toN i k)) w:=fun i hi=>by
      rw[(hto i k hi hk3).2];unfold st;by_cases h1:i=A.N
      ·rw[if_pos h1,if_pos h1,ext_none _ _ (by omega),ext_none _ _ (by omega)]
      ·rw[if_neg h1,if_neg h1];simp only[ext,Int.toNat_natCast];rw[if_neg (by omega)]
     have:=hal (k::w) (hw.cons hk3);rw[e i hi,e j hj,htoN i k b hk2,htoN j k b hk2]at this;exact this
   exact key i j hap hal
noncomputable def frsF (A:Aut) (i:Nat):Nat:=if i=A.N then A.N else least (alB A) i
theorem y3C (h:Pn A E nx) {t:Nat->Nat->Bool} (hT:AptT A.N A.vd nx (reps E 256) t) (hC:Clo A.N nx (reps E 256) t (A.N+1) 0) {i f:Nat} (hi:i<=A.N) (hf:f<=i) (h1:t i f=false) (h2:∀j,j<f->t i j=true):f=frsF A i:=by
 unfold frsF;by_cases e:i=A.N
 ·rw[if_pos e];rcases Nat.lt_or_ge f A.N with h3|h3
  ·exfalso;have h4:=(q5N h hT hC hi (by omega)).1 h1;unfold st at h4;rw[if_pos e,if_neg (by omega)]at h4;exact h.g.live f h3 h4.symm
  ·omega
 ·rw[if_neg e];have hst:∀x,x<A.N->st A x=(x:Int):=fun x hx=>by unfold st;rw[if_neg (by omega)]
  have hiN:i<A.N:=by omega
  refine(least_eq ((alB_iff A f i).2 ?_) (fun b hb=>?_) (least_like (alB_eqv A A.N) hiN)).symm
  ·have:=(q5N h hT hC hi (by omega)).1 h1;rw[hst i hiN,hst f (by omega)]at this;exact this.symm
  ·cases hx:alB A b i
   ·rfl
   ·exfalso;have h3:=(alB_iff A b i).1 hx;have h4:=(q5N h hT hC hi (show b<=A.N by omega)).2 (by rw[hst i hiN,hst b (by omega)];exact h3.symm);rw[h2 b hb]at h4;cases h4
theorem y2n (hi:i<A.N):frsF A i<A.N:=by
 unfold frsF;rw[if_neg (by omega)];have:=least_le (alB A) i;omega
theorem q6x (A:Aut):frsF A A.N=A.N:=by unfold frsF;rw[if_pos rfl]
def numF (O:List Nat) (x:Nat):Int:=if x∈O then (O.idxOf x:Int) else -1
structure Or (A:Aut) (E:Nat->Nat->Bool) (O:List Nat) (i r b:Nat):Prop where
 o:O=reps (alB A) (kn A (r*A.K+cnt E b))
 i:O[i]?=some r
 r:r<A.N
theorem q9n (E:Nat->Nat->Bool) (n:Nat):(reps E n).Nodup:=List.Pairwise.filter _ List.nodup_range
theorem q3m {x:Nat}:x∈reps E n<->x<n/\least E x=x:=by
 unfold reps;rw[List.mem_filter];simp
theorem Or.step (h:Pn A E nx) {O:List Nat}{i r b:Nat} (hO:Or A E O i r b) (hb:b<256):
  (toR A.N nx r b=A.N/\Or A E O i r (b+1))\/(∃m,toR A.N nx r b=m/\m<A.N/\((least (alB A) m∈O/\Or A E O i r (b+1))\/(least (alB A) m ∉ O/\Or A E (O++[least (alB A) m]) i r (b+1)))):=by
 have hto:=h.to (Nat.le_of_lt hO.r) hb;rw[if_neg (by have:=hO.r;omega)]at hto;have hkb:=h.kk hb;have hold:least E b≠b->cnt E (b+1)=cnt E b:=fun hne=>by rw[cnt_succ,if_neg hne,Nat.add_zero]
 have hidx:least E b=b->idx E b=cnt E b:=fun he=>idx_rep he
 by_cases hN:toR A.N nx r b=A.N
 ·refine Or.inl ⟨hN,⟨?_,hO.i,hO.r⟩⟩;rw[hN]at hto;have hneg:A.to r (idx E b)<0:=by
   have:=hto.2;unfold st at this;rw[if_pos rfl]at this;omega
  by_cases he:least E b=b
  ·rw[cnt_succ,if_pos he,<-Nat.add_assoc];rw[hidx he]at hneg hkb;rw[step_none hkb hneg];exact hO.o
  ·rw[hold he];exact hO.o
 ·have hm:toR A.N nx r b<A.N:=by omega
  refine Or.inr ⟨_,rfl,hm,?_⟩;obtain⟨m,hmm⟩:=nam (toR A.N nx r b);rw[<-hmm]at hto hm ⊢;have hto':A.to r (idx E b)=(m:Int):=by
   have:=hto.2;unfold st at this;rw[if_neg (by omega)]at this;exact this.symm
  have hli:=least_idem (alB_eqv A A.N) hm;have hkn:∀k,k<A.K->A.to r k=(m:Int)->least (alB A) m<kn A (r*A.K+k+1):=fun k hk hk2=>by
   rcases step_rep h.b hO.r hk hk2 with ⟨h1,_⟩|⟨h1,h2,_⟩
   ·have:=kn_mono A (show r*A.K+k<=r*A.K+k+1 by omega);omega
   ·rw[kn,fl_at A hk,hk2,if_pos (by omega)];omega
  by_cases he:least E b=b
  ·have he2:cnt E (b+1)=cnt E b+1:=by rw[cnt_succ,if_pos he]
   rw[hidx he]at hto' hkb;rcases step_rep h.b hO.r hkb hto' with ⟨h1,h2⟩|⟨h1,h2,h3⟩
   ·refine Or.inl ⟨by rw[hO.o,q3m];exact⟨h1,hli⟩,⟨?_,hO.i,hO.r⟩⟩;rw[he2,<-Nat.add_assoc,h2];exact hO.o
   ·refine Or.inr ⟨by rw[hO.o,q3m];intro hx;omega,⟨?_,?_,hO.r⟩⟩
    ·rw[he2,<-Nat.add_assoc,h3,h1,<-hO.o]
    ·rw[List.getElem?_append_left (List.getElem?_eq_some_iff.1 hO.i).1];exact hO.i
  ·refine Or.inl ⟨?_,⟨by rw[hold he];exact hO.o,hO.i,hO.r⟩⟩;rw[hO.o,q3m];refine⟨?_,hli⟩;have h1:=hkn _ hkb hto';have h2:idx E b<cnt E b:=cnt_lt (least_idem h.e hb) (by have:=least_le E b;omega);have:=kn_mono A (show r*A.K+idx E b+1<=r*A.K+cnt E b by omega);omega
theorem Or.first (h:Pn A E nx):Or A E [0] 0 0 0:=by
 refine⟨?_,rfl,h.b.pos⟩;have:cnt E 0=0:=rfl;rw[this,Nat.zero_mul];rfl
theorem Or.next (h:Pn A E nx) {O:List Nat}{i r:Nat} (hO:Or A E O i r 256):(∃r',O[i+1]?=some r'/\Or A E O (i+1) r' 0)\/(O.length=i+1/\O=reps (alB A) A.N):=by
 have ho:=hO.o;have e:r*A.K+cnt E 256=(r+1)*A.K:=by
  have:cnt E 256=A.K:=by rw[h.k];rfl
  rw[this,Nat.succ_mul]
 rw[e]at ho;have hi:=hO.i;have hlt:=(List.getElem?_eq_some_iff.1 hi).1;rw[ho]at hi;by_cases hl:i+1<O.length
 ·obtain⟨r',hr'⟩:∃r',O[i+1]?=some r':=⟨_,List.getElem?_eq_getElem hl⟩;have hr2:=hr';rw[ho]at hr2;obtain⟨n1,n2,n3,n4⟩:=next_rep h.g h.b hO.r hi hr2;refine Or.inl ⟨r',hr',⟨?_,hr',n2⟩⟩;have:cnt E 0=0:=rfl;rw[this,Nat.add_zero,<-n4];exact ho
 ·have hlen:O.length=i+1:=by omega
  refine Or.inr ⟨hlen,?_⟩;rw[<-last_rep h.g h.b hO.r hi (by rw[<-ho];exact hlen)];exact ho
end Go.Proofs.YtoaaklhpmhjhkaaGreat
