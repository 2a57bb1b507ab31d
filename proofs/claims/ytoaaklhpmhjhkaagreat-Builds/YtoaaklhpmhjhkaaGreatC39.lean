import Derived.Test.YtoaaklhpmhjhkaaGreatC38
set_option maxRecDepth 100000
set_option maxHeartbeats 4000000
set_option linter.all false
namespace Go.Proofs.YtoaaklhpmhjhkaaGreat
open Go.RowKit
open Bm
def intN (x:Nat):Value:=.int .i64 (x:Int)
structure Pls (Ts:Nat->Nat->Nd) (Ns:Nat->Nat) (es:Nat->Rx) (ti nd:List Nat) (c L:Nat):Prop where
 a:ti.length=L
 b:nd.length=L
 p:∀p,p<L->ti.getD p 0<c/\nd.getD p 0<Ns (ti.getD p 0)/\(Ts (ti.getD p 0) (nd.getD p 0)).kind=0/\p=netN es (ti.getD p 0)+clN (Ts (ti.getD p 0)) (nd.getD p 0)
theorem Pls.nil (Ts:Nat->Nat->Nd) (Ns:Nat->Nat) (es:Nat->Rx):Pls Ts Ns es [] [] 0 0:=⟨rfl,rfl,λp a=>by omega⟩
variable {L0 L3 lx : List Value}{N P R b base cap g gb i ib k n n0 tb : Nat}{ls : Nat → List Value}{Ns cp sk tr xb : Nat → Nat}{Ts : Nat → Nat → Nd}{X : Nat → Prop}{es : Nat → Rx}{vs : Nat → Value}{w w' w0 w1 : World}
theorem Pls.tree {ti nd:List Nat}{c L:Nat} (h:Pls Ts Ns es ti nd c L) (T:Nat->Nd) (N:Nat):Pls (upV Ts c T) (upV Ns c N) es ti nd (c+1) L:=
 ⟨h.a,h.b,λp i=>by
  obtain⟨j,d,f,g⟩:=h.p p i;have e:ti.getD p 0≠c:=by omega
  rw[q0f _ _ e,q0f _ _ e];exact⟨by omega,d,f,g⟩⟩
theorem q3p {l:List Nat}{p:Nat} (h:p<l.length) (x:Nat):(l++[x]).getD p 0=l.getD p 0:=by
 simp only[List.getD_eq_getElem?_getD,List.getElem?_append_left h]
theorem q3q (l:List Nat) (x:Nat):(l++[x]).getD l.length 0=x:=by
 simp[List.getD_eq_getElem?_getD]
theorem Pls.letter {ti nd:List Nat}{c L:Nat} (h:Pls Ts Ns es ti nd (c+1) L) (hk:k<Ns c) (h0:(Ts c k).kind=0) (hL:L=netN es c+clN (Ts c) k):Pls Ts Ns es (ti++[c]) (nd++[k]) (c+1) (L+1):=
 ⟨by simp[h.a],by simp[h.b],λp g=>by
  by_cases e:p<L
  ·rw[q3p (by rw[h.a];exact e),q3p (by rw[h.b];exact e)];exact h.p p e
  have d:p=L:=by omega
  subst d;have f:(ti++[c]).getD p 0=c:=by rw[<-h.a];exact q3q ti c
  have e2:(nd++[k]).getD p 0=k:=by rw[<-h.b];exact q3q nd k
  rw[f,e2];exact⟨by omega,hk,h0,hL⟩⟩
def zeroI (n:Nat):List Value:=(List.range n).map λ_=>.int .i64 0
theorem q1M (w:World) (n:Nat) (hn:n<=1000000):(Instr.makeSlice 23 (.int .i64 (n:Int)) (.int .i64 (n:Int))).run Tryz.prog w=.ok (.slice (some ⟨w.heap.size,0,none⟩) n n) (w.alloc (.cells (zeroI n).toArray 3)):=by
 obtain⟨i,b,c,hs,a⟩:=eInfoInt;have h:=run_make (P:=Tryz.prog) w 23 3 i (.int .i64 0) Tryz.underlying23 b c .i64 .i64 n n (by omega) (by omega) (by rw[a];omega) (by omega);rw[hs]at h;simp only[Int.toNat_natCast,Nat.mul_one]at h;rw[show(Value.int .i64 0).cells=#[.int .i64 0] from rfl,q3n]at h;exact h
def inl (f:Nat->Int) (n:Nat):List Value:=(List.range n).map λi=>.int .i64 (f i)
theorem q1d (f:Nat->Int) (n:Nat):(inl f n).length=n:=by simp[inl]
theorem q1l (f:Nat->Int) {n i:Nat} (h:i<n):(inl f n)[i]?=some (.int .i64 (f i)):=by simp[inl,h]
theorem q0C {f g:Nat->Int} (h:∀i,i<n->f i=g i):inl f n=inl g n:=by
 unfold inl;exact List.map_congr_left (λi a=>by rw[h i (by simpa using a)])
theorem q1B (f:Nat->Int) (n i:Nat) (x:Int):(inl f n).set i (.int .i64 x)=inl (λj=>if j=i then x else f j) n:=by
 refine List.ext_getElem? (λj=>?_);by_cases a:j<n
 ·rw[q1l _ a];by_cases e:j=i
  ·subst e;rw[List.getElem?_set_self (by rw[q1d];exact a)];simp
  rw[List.getElem?_set_ne (λq=>e q.symm),q1l _ a];simp[e]
 rw[List.getElem?_eq_none (by simp[q1d];omega),List.getElem?_eq_none (by rw[q1d];omega)]
theorem y2w {f:Nat->Int} (h:TC b (inl f n) w):IL (some ⟨b,0,none⟩) f n w:=λi a=>⟨b,0,rfl,by rw[Nat.zero_add];exact(h i _ (q1l f a)).1⟩
def ixT (T:Nat->Nd) (n0 k m:Nat):Int:=if m<k/\(T m).kind=0 then ((n0+clN T m:Nat):Int) else 0
structure GW (gb base:Nat) (i:Nat) (es:Nat->Rx) (tr ad cp xb:Nat->Nat) (ms:Nat->Lie) (Ts:Nat->Nat->Nd) (Ns:Nat->Nat) (ti nd:List Nat) (vs:Nat->Value) (ls:Nat->List Value) (X:Nat->Prop) (w0 w:World):Prop where
 g:G5 gb base 5 gTy vs ls X w
 l0:ls 0=(List.range i).map fun r=>.pointer (some ⟨tr r,0,none⟩)
 l1:ls 1=ti.map intN
 l2:ls 2=nd.map intN
 l3:ls 3=(List.range i).map fun r=>.slice (some ⟨xb r,0,none⟩) (Ns r) (Ns r)
 l4:ls 4=[]
 t:∀r,r<i->Tre (Ts r) (Ns r)/\1<=Ns r/\Ns r<=20000/\Good (Ts r) (Ns r) 0 (Ns r-1) (es r)/\TRX X (tr r) (Ts r) (Ns r) (ad r) (cp r) (ms r) w
 x:∀r,r<i->∀w',AgX X w w'->w.heap.size<=w'.heap.size->IL (some ⟨xb r,0,none⟩) (ixI es Ts r) (Ns r) w'
 p:Pls Ts Ns es ti nd i (netN es i)
 b:Below w0.heap.size w0 w
 s:w0.heap.size<=gb
structure IS (gb base ib:Nat) (lx:List Value) (vs:Nat->Value) (ls:Nat->List Value) (X:Nat->Prop) (w0 w1 w:World):Prop where
 g:G5 gb base 5 gTy vs ls X w
 x:TC ib lx w
 l:ib<w.heap.size
 d:∀j,j<5->(vs j).ownBlock≠some ib
 n:¬X ib/\ib≠gb
 a:AgX X w1 w
 z:w1.heap.size<=w.heap.size
 b:Below w0.heap.size w0 w
 s:w0.heap.size<=gb/\w0.heap.size<=ib
theorem IS.below (h:IS gb base ib lx vs ls X w0 w1 w) (hW:Below w.heap.size w w'):IS gb base ib lx vs ls X w0 w1 w':=
 ⟨h.g.below (by omega) hW,h.x.block (hW.block ib h.l),by have:=hW.size;have:=h.l;omega,h.d,h.n,h.a.trans (λk c=>hW.block k (h.g.x k c).1),by have:=hW.size;have:=h.z;omega,h.b.trans (hW.mono h.b.size),h.s⟩
theorem IS.put {gb base ib:Nat}{lx:List Value}{vs:Nat->Value}{ls:Nat->List Value}{X:Nat->Prop}{w0 w1 w:World} (h:IS gb base ib lx vs ls X w0 w1 w) {k:Nat} (hk:k<lx.length) (u:Value):IS gb base ib (lx.set k u) vs ls X w0 w1 (w.setCell ⟨ib,k,none⟩ u):=by
 have f:∀q,q≠ib->(w.setCell ⟨ib,k,none⟩ u).heap[q]?=w.heap[q]?:=λq c=>Below.heap_setCell w ⟨ib,k,none⟩ _ q (λe=>c e)
 have hs:(w.setCell ⟨ib,k,none⟩ u).heap.size=w.heap.size:=World.size_setCell ..;refine⟨h.g.keep (f gb (λe=>h.n.2 e.symm)) (λi q j c=>f q (λe=>h.d i j (e▸c))) (λq c=>⟨by rw[hs];exact(h.g.x q c).1,(h.g.x q c).2⟩),h.x.set k hk u,by rw[hs];exact h.l,h.d,h.n,h.a.trans (λq c=>f q (λe=>h.n.1 (e▸c))),by rw[hs];exact h.z,h.b.setCell (p:=⟨ib,k,none⟩) h.s.2 u,h.s⟩
theorem IS.app {gb base ib:Nat}{lx:List Value}{vs:Nat->Value}{ls:Nat->List Value}{X:Nat->Prop}{w0 w1 w w5:World} (h:IS gb base ib lx vs ls X w0 w1 w) {i:Nat} (hi:i<5) {t:Value}{g len cap:Nat} (hg:w.grownBy w5 (vs i).ownBlock) (ho:OwnV base (gTy i) (.slice (some ⟨g,0,none⟩) len cap) (ls i++[t]) w5) (hb:(vs i).ownBlock=some g\/g=w.heap.size):
  IS gb base ib lx (upV vs i (.slice (some ⟨g,0,none⟩) len cap)) (upV ls i (ls i++[t])) X w0 w1 (w5.setCell ⟨gb,i,none⟩ (.slice (some ⟨g,0,none⟩) len cap)):=by
 obtain⟨r,k,B,A⟩:=h.g.app hi hg ho hb;have v:=h.g.g;have hs:=h.s;refine⟨r,h.x.block (A ib h.l h.n.2 (h.d i hi)),by have:=h.l;omega,λj f=>?_,h.n,h.a.trans k,by have:=h.z;omega,?_,h.s⟩
 ·by_cases e:j=i
  ·subst e;rw[q0i];intro e2;have u:g=ib:=Option.some.inj e2;rcases hb with c|c
   ·exact h.d j f (u▸c)
   have:=h.l;omega
  rw[q0f _ _ e];exact h.d j f
 have m:Below w0.heap.size w0 w5:=h.b.grown hg (by have:=h.l;omega) (λq y=>by have:=((h.g.o i hi).lt q y).1;omega);exact m.setCell (p:=⟨gb,i,none⟩) hs.1 _
structure GI (gb base i:Nat) (es:Nat->Rx) (ib k:Nat) (L0 L3:List Value) (Ts:Nat->Nat->Nd) (Ns:Nat->Nat) (ti nd:List Nat) (vs:Nat->Value) (ls:Nat->List Value) (X:Nat->Prop) (w0 w1 w:World):Prop where
 st:IS gb base ib (inl (ixT (Ts i) (netN es i) k) (Ns i)) vs ls X w0 w1 w
 l0:ls 0=L0
 l1:ls 1=ti.map intN
 l2:ls 2=nd.map intN
 l3:ls 3=L3
 l4:ls 4=[]
 p:Pls Ts Ns es ti nd (i+1) (netN es i+clN (Ts i) k)
variable {T : Nat → Nd}
theorem y1F (hk:(T k).kind≠0) (m:Nat):ixT T n0 (k+1) m=ixT T n0 k m:=by
 unfold ixT;by_cases e:m=k
 ·subst e;rw[if_neg (λq=>hk q.2),if_neg (λq=>hk q.2)]
 by_cases e2:m<k
 ·simp only[e2,show m<k+1 by omega]
 simp only[e2,show ¬m<k+1 by omega]
theorem y2O (hk:(T k).kind=0) (m:Nat):ixT T n0 (k+1) m=if m=k then ((n0+clN T k:Nat):Int) else ixT T n0 k m:=by
 unfold ixT;by_cases e:m=k
 ·subst e;rw[if_pos ⟨by omega,hk⟩,if_pos rfl]
 rw[if_neg e];by_cases e2:m<k
 ·simp only[e2,show m<k+1 by omega]
 simp only[e2,show ¬m<k+1 by omega]
theorem GI.skip {ti nd:List Nat} (h:GI gb base i es ib k L0 L3 Ts Ns ti nd vs ls X w0 w1 w) (hk:(Ts i k).kind≠0):GI gb base i es ib (k+1) L0 L3 Ts Ns ti nd vs ls X w0 w1 w:=
 ⟨by rw[q0C (λm _=>y1F hk m)];exact h.st,h.l0,h.l1,h.l2,h.l3,h.l4,by simp only[clN,if_neg hk,Nat.add_zero];exact h.p⟩
theorem GI.letter {ti nd:List Nat}{vs':Nat->Value} (h:GI gb base i es ib k L0 L3 Ts Ns ti nd vs ls X w0 w1 w) (hk:(Ts i k).kind=0) (hkN:k<Ns i)
  (hS:IS gb base ib ((inl (ixT (Ts i) (netN es i) k) (Ns i)).set k (.int .i64 ((netN es i+clN (Ts i) k:Nat):Int))) vs' (upV (upV ls 1 (ls 1++[intN i])) 2 (ls 2++[intN k])) X w0 w1 w'):GI gb base i es ib (k+1) L0 L3 Ts Ns (ti++[i]) (nd++[k]) vs' (upV (upV ls 1 (ls 1++[intN i])) 2 (ls 2++[intN k])) X w0 w1 w':=by
 refine⟨?_,?_,?_,?_,?_,?_,?_⟩
 ·rw[q1B]at hS;rw[q0C (λm _=>y2O hk m)];exact hS
 ·rw[q0f _ _ (by omega),q0f _ _ (by omega)];exact h.l0
 ·rw[q0f _ _ (by omega),q0i,h.l1,List.map_append];rfl
 ·rw[q0i,h.l2,List.map_append];rfl
 ·rw[q0f _ _ (by omega),q0f _ _ (by omega)];exact h.l3
 ·rw[q0f _ _ (by omega),q0f _ _ (by omega)];exact h.l4
 simp only[clN,if_pos hk];rw[<-Nat.add_assoc];exact h.p.letter hkN hk rfl
variable {ms : Nat → Lie}
theorem GW.next {ad:Nat->Nat}{ti nd:List Nat} (h:GW gb base i es tr ad cp xb ms Ts Ns ti nd vs ls X w0 w)
  {tb g cap N:Nat}{m:Lie}{T:Nat->Nd}{X1 X2:Nat->Prop}{ib:Nat}{ti' nd':List Nat}{vs':Nat->Value}{ls':Nat->List Value}{w1 w2:World} (h1:Tre T N) (h2:1<=N) (h3:N<=20000) (h4:Good T N 0 (N-1) (es i)) (h5:TRX X1 tb T N g cap m w1) (hX:∀k,X k->X1 k) (hA:AgX X w w1) (hs:w.heap.size<=w1.heap.size)
  (hG:GI gb base i es ib N ((List.range (i+1)).map λr=>.pointer (some ⟨upV tr i tb r,0,none⟩)) (ls 3) (upV Ts i T) (upV Ns i N) ti' nd' vs' ls' X1 w0 w1 w2)
  {vs3:Nat->Value}{w3:World} (hX2:∀k,X2 k<->X1 k\/k=ib) (hS:IS gb base ib (inl (ixT (upV Ts i T i) (netN es i) N) (upV Ns i N i)) vs3 (upV ls' 3 (ls' 3++[.slice (some ⟨ib,0,none⟩) N N])) X1 w0 w1 w3):
  GW gb base (i+1) es (upV tr i tb) (upV ad i g) (upV cp i cap) (upV xb i ib) (upV ms i m) (upV Ts i T) (upV Ns i N) ti' nd' vs3 (upV ls' 3 (ls' 3++[.slice (some ⟨ib,0,none⟩) N N])) X2 w0 w3:=by
 have u:=hA.trans (λk c=>hS.a k (hX k c));have G:w.heap.size<=w3.heap.size:=by have:=hS.z;omega
 have f:∀k,X2 k->k<w3.heap.size:=λk c=>by
  rcases (hX2 k).1 c with h|h
  ·exact(hS.g.x k h).1
  rw[h];exact hS.l
 refine⟨hS.g.more (λk c=>?_),?_,?_,?_,?_,?_,λr C=>?_,λr C w' ha E=>?_,?_,hS.b,hS.s.1⟩
 ·rcases (hX2 k).1 c with h|h
  ·exact Or.inl h
  subst h;exact Or.inr ⟨hS.l,hS.n.2,λj D=>hS.d j D⟩
 ·rw[q0f _ _ (by omega)];exact hG.l0
 ·rw[q0f _ _ (by omega)];exact hG.l1
 ·rw[q0f _ _ (by omega)];exact hG.l2
 ·rw[q0i,hG.l3,h.l3,List.range_succ,List.map_append];congr 1
  ·refine List.map_congr_left (λr C=>?_);have v:r≠i:=by have:=List.mem_range.1 C;omega
   rw[q0f _ _ v,q0f _ _ v]
  simp[q0i]
 ·rw[q0f _ _ (by omega)];exact hG.l4
 ·by_cases e:r=i
  ·subst e;simp only[q0i];exact⟨h1,h2,h3,h4,(h5.keep hS.a hS.z).mono f (λk c=>(hX2 k).2 (Or.inl c))⟩
  obtain⟨H,I,J,K,L⟩:=h.t r (by omega);simp only[q0f _ _ e];exact⟨H,I,J,K,(L.keep u G).mono f (λk c=>(hX2 k).2 (Or.inl (hX k c)))⟩
 ·by_cases e:r=i
  ·subst e;rw[q0i,q0i];have F:=hS.x.block (ha ib ((hX2 ib).2 (Or.inr rfl)));have:=y2w F;rw[q0i,q0i]at this;intro q y;obtain⟨b,o,A,e2⟩:=this q y;refine⟨b,o,A,?_⟩;rw[e2];unfold ixT ixI ixR;rw[q0i];simp only[y,true_and]
  rw[q0f _ _ e,q0f _ _ e];have:=h.x r (by omega) w' (u.trans (λk c=>ha k ((hX2 k).2 (Or.inl (hX k c))))) (by omega);intro q y;obtain⟨b,o,A,e2⟩:=this q y;refine⟨b,o,A,?_⟩;rw[e2];unfold ixI ixR;rw[q0f _ _ e]
 have:=hG.p;rw[q0i]at this;have B:=h4.cl;rw[Nat.sub_add_cancel h2]at B;simp only[clN,Nat.zero_add]at B;rw[B]at this;exact this
structure GNx (gb base R P:Nat) (es:Nat->Rx) (tr ad cp xb sk:Nat->Nat) (ms:Nat->Lie) (Ts:Nat->Nat->Nd) (Ns:Nat->Nat) (ti nd:List Nat) (p:Nat) (vs:Nat->Value) (ls:Nat->List Value) (X:Nat->Prop) (w0 w:World):Prop where
 g:G5 gb base 5 gTy vs ls X w
 l0:ls 0=(List.range R).map fun r=>.pointer (some ⟨tr r,0,none⟩)
 l1:ls 1=ti.map intN
 l2:ls 2=nd.map intN
 l3:ls 3=(List.range R).map fun r=>.slice (some ⟨xb r,0,none⟩) (Ns r) (Ns r)
 l4:ls 4=(List.range p).map fun q=>.slice (some ⟨sk q,0,none⟩) (P+R) (P+R)
 t:∀r,r<R->TRX X (tr r) (Ts r) (Ns r) (ad r) (cp r) (ms r) w
 x:∀r,r<R->∀w',AgX X w w'->w.heap.size<=w'.heap.size->IL (some ⟨xb r,0,none⟩) (ixI es Ts r) (Ns r) w'
 n:∀q,q<p->∀w',AgX X w w'->w.heap.size<=w'.heap.size->BR (some ⟨sk q,0,none⟩) (nxR es Ts Ns (fun i=>ti.getD i 0) (fun i=>nd.getD i 0) P q) (P+R) w'
 b:Below w0.heap.size w0 w
 s:w0.heap.size<=gb
def gXX (gb:Nat) (vs:Nat->Value) (X:Nat->Prop) (k:Nat):Prop:=k=gb\/(∃j,j<5/\(vs j).ownBlock=some k)\/X k
theorem GNx.gx {ad:Nat->Nat}{ti nd:List Nat}{p:Nat} (h:GNx gb base R P es tr ad cp xb sk ms Ts Ns ti nd p vs ls X w0 w) (hti:ti.length=P):GX (gXX gb vs X) gb P R tr ad cp ms Ts Ns es w:=by
 have n:∀w',AgX (gXX gb vs X) w w'->w.heap.size<=w'.heap.size->G5 gb base 5 gTy vs ls X w':=λw' ha hs=>h.g.keep (ha gb (Or.inl rfl)) (λi k s b=>ha k (Or.inr (Or.inl ⟨i,s,b⟩))) (λk b=>⟨by have:=(h.g.x k b).1;omega,(h.g.x k b).2⟩)
 have q:∀w',AgX (gXX gb vs X) w w'->AgX X w w':=λw' ha k b=>ha k (Or.inr (Or.inr b))
 refine⟨λk b=>?_,λw' ha hs=>?_,λw' ha hs=>?_,λw' ha hs=>?_⟩
 ·rcases b with f|⟨j,u,f⟩|f
  ·rw[f];exact h.g.lt (by omega)
  ·exact((h.g.o j u).lt k f).2
  exact(h.g.x k f).1
 ·have G:=n w' ha hs;obtain⟨a,c,e,d⟩:=(G.o 0 (by omega)).form;rw[h.l0]at e d;simp only[List.length_map,List.length_range]at e;refine⟨a,c,by rw[(G.cell (i:=0) (by omega)).1,e],λr l=>?_⟩;obtain⟨g,m,e2⟩:=d r (.pointer (some ⟨tr r,0,none⟩)) (by simp[l]);exact⟨g,0,m,by rw[Nat.zero_add];exact e2,(h.t r l).t w' (q w' ha) hs⟩
 ·have G:=n w' ha hs;obtain⟨a,c,e,d⟩:=(G.o 1 (by omega)).form;rw[h.l1]at e;simp only[List.length_map,hti]at e;exact⟨a,c,by rw[(G.cell (i:=1) (by omega)).1,e]⟩
 have G:=n w' ha hs;obtain⟨a,c,e,d⟩:=(G.o 3 (by omega)).form;rw[h.l3]at e d;simp only[List.length_map,List.length_range]at e;refine⟨a,c,by rw[(G.cell (i:=3) (by omega)).1,e],λr l=>?_⟩;obtain⟨g,m,e2⟩:=d r (.slice (some ⟨xb r,0,none⟩) (Ns r) (Ns r)) (by simp[l]);exact⟨g,0,_,_,m,by rw[Nat.zero_add];exact e2,h.x r l w' (q w' ha) hs⟩
theorem GNx.next {ad:Nat->Nat}{ti nd:List Nat}{p:Nat} (h:GNx gb base R P es tr ad cp xb sk ms Ts Ns ti nd p vs ls X w0 w)
  {w2 w3 w5:World}{F:Nat->Bool} (hB:Below w.heap.size w w2) (hT:TC w.heap.size (bl F (P+R)) w2) (hs2:w.heap.size<w2.heap.size) (hF:∀q,q<P+R->F q=nxR es Ts Ns (λi=>ti.getD i 0) (λi=>nd.getD i 0) P p q) (hW:Below w2.heap.size w2 w3)
  {g len cap:Nat} (hg:w3.grownBy w5 (vs 4).ownBlock) (ho:OwnV base (gTy 4) (.slice (some ⟨g,0,none⟩) len cap) (ls 4++[.slice (some ⟨w.heap.size,0,none⟩) (P+R) (P+R)]) w5) (hb:(vs 4).ownBlock=some g\/g=w3.heap.size):
  GNx gb base R P es tr ad cp xb (upV sk p w.heap.size) ms Ts Ns ti nd (p+1) (upV vs 4 (.slice (some ⟨g,0,none⟩) len cap)) (upV ls 4 (ls 4++[.slice (some ⟨w.heap.size,0,none⟩) (P+R) (P+R)])) (λk=>X k\/k=w.heap.size) w0 (w5.setCell ⟨gb,4,none⟩ (.slice (some ⟨g,0,none⟩) len cap)):=by
 have A:G5 gb base 5 gTy vs ls (λk=>X k\/k=w.heap.size) w2:=(h.g.below (by omega) hB).more (λk a=>by
  rcases a with m|m
  ·exact Or.inl m
  subst m;exact Or.inr ⟨hs2,by have:=h.g.lt (by omega);omega,λj f e=>by have:=((h.g.o j f).lt _ e).2;omega⟩)
 obtain⟨B,D,H,_⟩:=(A.below (by omega) hW).app (i:=4) (by omega) hg ho hb;have G:=hW.size;have c:=AgX.trans (λk a=>hW.block k (A.x k a).1) D;have l:=AgX.trans (λk a=>hB.block k (h.g.x k a).1) (λk a=>c k (Or.inl a));have u:∀k,X k\/k=w.heap.size->k<(w5.setCell ⟨gb,4,none⟩ (.slice (some ⟨g,0,none⟩) len cap)).heap.size:=λk a=>(B.x k a).1
 have v:=h.b.size;have z:Below w0.heap.size w0 w3:=h.b.trans ((hB.mono v).trans (hW.mono (by omega)));have E:Below w0.heap.size w0 w5:=z.grown hg z.size (λq C=>by have:=((h.g.o 4 (by omega)).lt q C).1;have:=h.g.g;have:=h.s;omega);refine⟨B,?_,?_,?_,?_,?_,λr d=>((h.t r d).keep l (by omega)).mono u (λk a=>Or.inl a),λr d w' ha y=>h.x r d w' (l.trans (λk a=>ha k (Or.inl a))) (by omega),λq C w' ha y=>?_,E.setCell (p:=⟨gb,4,none⟩) h.s _,h.s⟩
 ·rw[q0f _ _ (by omega)];exact h.l0
 ·rw[q0f _ _ (by omega)];exact h.l1
 ·rw[q0f _ _ (by omega)];exact h.l2
 ·rw[q0f _ _ (by omega)];exact h.l3
 ·rw[q0i,h.l4,List.range_succ,List.map_append];congr 1
  ·refine List.map_congr_left (λr d=>?_);rw[q0f _ _ (by have:=List.mem_range.1 d;omega)]
  simp[q0i]
 by_cases e:q=p
 ·subst e;rw[q0i];intro j f;refine⟨w.heap.size,0,rfl,?_⟩;rw[Nat.zero_add,<-hF j f];exact((hT.block ((ha _ (Or.inr rfl)).trans (c _ (Or.inr rfl)))) j _ (q0x _ f)).1
 rw[q0f _ _ e];exact h.n q (by omega) w' (l.trans (λk a=>ha k (Or.inl a))) (by omega)
def GmPost (es:Nat->Rx) (R:Nat) (w:World) (ee:Ending) (w':World):Prop:=
 ∃X tr ad cp ms Ts Ns ti nd,ee=.returned (.pointer (some ⟨w.heap.size,0,none⟩))/\Gm R Ts Ns es ti nd/\(∀r,r<R->Ns r<=20000)/\GX X w.heap.size (netN es R) R tr ad cp ms Ts Ns es w'/\GR w.heap.size (netN es R) R tr Ts Ns ti nd w'/\NX w.heap.size (netN es R) R (nxR es Ts Ns ti nd (netN es R)) w'/\Below w.heap.size w w'/\w.heap.size<w'.heap.size
theorem GNx.post {ad:Nat->Nat}{ti nd:List Nat} (h:GNx gb base R P es tr ad cp xb sk ms Ts Ns ti nd P vs ls X w0 w) (hP:P=netN es R) (hgb:gb=w0.heap.size) (hGm:Gm R Ts Ns es (λi=>ti.getD i 0) (λi=>nd.getD i 0)) (hN:∀r,r<R->Ns r<=20000) (hti:ti.length=P) (hnd:nd.length=P):GmPost es R w0 (.returned (.pointer (some ⟨gb,0,none⟩))) w:=by
 have gx:=h.gx hti;subst hP;subst hgb;refine⟨_,tr,ad,cp,ms,Ts,Ns,_,_,rfl,hGm,hN,gx,⟨?_,?_,?_,λp j=>?_⟩,?_,h.b,h.g.lt (by omega)⟩
 ·obtain⟨a,c,k,e2⟩:=gx.t w (AgX.refl _ _) (Nat.le_refl _);refine⟨a,c,k,λr B=>?_⟩;obtain⟨b,o,u,v,x⟩:=e2 r B;exact⟨b,o,u,v,x.tr⟩
 ·have q:=h.g.o 1 (by omega);rw[h.l1]at q;obtain⟨f,d,e,il⟩:=OwnV.il (l:=ti) q;rw[hti]at e il;exact⟨f,d,by rw[(h.g.cell (i:=1) (by omega)).1,e],il⟩
 ·have s:=h.g.o 2 (by omega);rw[h.l2]at s;obtain⟨f,d,e,il⟩:=OwnV.il (l:=nd) s;rw[hnd]at e il;exact⟨f,d,by rw[(h.g.cell (i:=2) (by omega)).1,e],il⟩
 ·obtain⟨y,z,A,_⟩:=hGm.p p j;exact⟨y,z,A⟩
 obtain⟨a,c,e,m⟩:=(h.g.o 4 (by omega)).form;rw[h.l4]at e m;simp only[List.length_map,List.length_range]at e;refine⟨a,c,by rw[(h.g.cell (i:=4) (by omega)).1,e],λp j=>?_⟩;obtain⟨g,k,e2⟩:=m p (.slice (some ⟨sk p,0,none⟩) (netN es R+R) (netN es R+R)) (by simp[j]);exact⟨g,0,_,_,k,by rw[Nat.zero_add];exact e2,h.n p j w (AgX.refl _ _) (Nat.le_refl _)⟩
theorem y0b (w:World):(Instr.build 113 #[]).run Tryz.prog w=.ok (.agg #[.slice none 0 0,.slice none 0 0,.slice none 0 0,.slice none 0 0,.slice none 0 0]) w:=by kernel_rfl
theorem GW.first (w:World) (es:Nat->Rx) (ty:TypeId):GW w.heap.size (w.heap.size+1) 0 es (λ_=>0) (λ_=>0) (λ_=>0) (λ_=>0) (λ_=>⟨λ_=>.int .i64 0,λ_=>none,λ_=>0⟩) (λ_ _=>newN 0 []) (λ_=>0) [] [] (λ_=>.slice none 0 0) (λ_=>[]) (λ_=>False) w (w.alloc (.cells #[.slice none 0 0,.slice none 0 0,.slice none 0 0,.slice none 0 0,.slice none 0 0] ty)):=
 ⟨⟨TC.boxed w [.slice none 0 0,.slice none 0 0,.slice none 0 0,.slice none 0 0,.slice none 0 0] ty,λi _=>OwnV.nil _ _ _,λi j k _ _ _ h=>(by cases h),λk h=>h.elim,by omega⟩,rfl,rfl,rfl,rfl,rfl,λr a=>by omega,λr a=>by omega,Pls.nil _ _ _,box_bel _ _,Nat.le_refl _⟩
theorem TRm.nod {m:Lie} (h:TRm tb T N g cap m w) {k:Nat} (hk:k<N):w.cell? ⟨g,k*5,none⟩=some (.int .i64 (T k).kind):=by
 have:=(h.n k hk).1 0 _ rfl;rw[Nat.add_zero]at this;exact this
theorem q8m (b off cap R:Nat) (f:Nat->ByteArray) (es:Nat->Rx) (w:World) (h8:R<=8) (hb:b<w.heap.size) (hr:SRow b off f R w) (hGw:∀i,i<R->∀w',Calls Tryz.prog 39 #[.string (f i)] w' (GwPost w' (es i))) (hP:netN es R<=96)
  : Calls Tryz.prog 27 #[.slice (some ⟨b,off,none⟩) R cap] w (GmPost es R w):=by
 have hz:=y0b;have bP:∀(w':World) (n:Nat),n<=1000000->(Instr.makeSlice 23 (.int .i64 (n:Int)) (.int .i64 (n:Int))).run Tryz.prog w'=.ok (.slice (some ⟨w'.heap.size,0,none⟩) n n) (w'.alloc (.cells (zeroI n).toArray 3)):=q1M;have bC:Hid (∀(w':World) (n:Nat),n<=1000000->(Instr.makeSlice 23 (.int .i64 (n:Int)) (.int .i64 (n:Int))).run Tryz.prog w'=.ok (.slice (some ⟨w'.heap.size,0,none⟩) n n) (w'.alloc (.cells (zeroI n).toArray 3))):=bP;have aX:Hid (GW w.heap.size (w.heap.size+1) 0 es (λ_=>0) (λ_=>0) (λ_=>0) (λ_=>0) (λ_=>⟨λ_=>.int .i64 0,λ_=>none,λ_=>0⟩) (λ_ _=>newN 0 []) (λ_=>0) [] [] (λ_=>.slice none 0 0) (λ_=>[]) (λ_=>False) w (w.alloc (.cells #[.slice none 0 0,.slice none 0 0,.slice none 0 0,.slice none 0 0,.slice none 0 0] 113))):=GW.first w es _;have bw:Hid (∀i,i<R->∀w',Calls Tryz.prog 39 #[.string (f i)] w' (GwPost w' (es i))):=hGw;have bB:Hid (SRow b off f R w):=hr;have cr:(R:Int)<=8:=by omega
 obtain⟨gb,bd⟩:=nam w.heap.size;rw[<-bd]at aX;have aq:=hyd bd;clear hGw hr bP bd;go_enter Tryz.func27,Tryz.ntmps27;go_wp2_with fail;clear hz;rw[<-aq.out]
 go_loopw [4] (λx w'=>∃(i:Nat) (tr ad cp xb:Nat->Nat) (ms:Nat->Lie) (Ts:Nat->Nat->Nd) (Ns:Nat->Nat) (ti nd:List Nat) (vs:Nat->Value) (ls:Nat->List Value) (X:Nat->Prop),i<=R/\x=.int .i64 i/\GW gb (gb+1) i es tr ad cp xb ms Ts Ns ti nd vs ls X w w') (λx _=>R-(intOf x).toNat)
 ·exact⟨0,_,_,_,_,_,_,_,_,_,_,_,_,by omega,rfl,aX.out⟩
 clear aX;obtain⟨i,tr,ad,cp,xb,ms,Ts,Ns,ti,nd,vs,ls,X,hi,rfl,G⟩:=hrel;by_cases be:i<R
 ·have ci:(i:Int)<R:=by omega
  have cs:=bB.out.below hb G.b i be;have HC:=bw.out i be wr;have aW:Hid (Calls Tryz.prog 39 #[.string (f i)] wr (GwPost wr (es i))):=HC;have I:=hyd G;obtain⟨si,bR⟩:=nam (f i);rw[<-bR]at cs aW;clear G HC bR;go_wp2_with fail;refine aW.out.mono ?_;rintro ee w1 ⟨T,N,Xt,g,bE,m,rfl,aS,bG,b8,az,ai,bJ,ak,cb⟩;obtain⟨X1,aA⟩:∃X1:Nat->Prop,X1=λk=>X k\/Xt k:=⟨_,rfl⟩
  have bc:∀k,X1 k->k<w1.heap.size:=λk hk=>by
   rw[aA]at hk;rcases hk with h|h
   ·have:=(I.out.g.x k h).1;omega
   exact ai.s k h
  have bb:=ai.mono bc (λk hk=>by rw[aA];exact Or.inr hk);have bO:∀j,j<5->∀k,(vs j).ownBlock=some k->gb+1<=k/\k<wr.heap.size:=λj hj k hk=>(I.out.g.o j hj).lt k hk
  have ca:=I.out.g.lt (by omega);have G1:G5 gb (gb+1) 5 gTy vs ls X1 w1:=(I.out.g.below (by omega) ak).more (λk hk=>by
   rw[aA]at hk;rcases hk with h|h
   ·exact Or.inl h
   have:=bJ k h;exact Or.inr ⟨ai.s k h,by omega,λj hj e=>by have:=bO j hj k e;omega⟩)
  obtain⟨tb,bj⟩:=nam wr.heap.size;rw[<-bj]at bb ⊢;obtain⟨a0,c0,e0,_⟩:=(G1.o 0 (by omega)).form;rw[I.out.l0]at e0;simp only[List.length_map,List.length_range]at e0;have bK:=(G1.cell (i:=0) (by omega)).1;have aN:=box_bel w1 (.cells #[.pointer (some ⟨tb,0,none⟩)] 94);have a7:=(G1.below (by omega) aN).o 0 (by omega);rw[e0,I.out.l0]at a7;rw[e0]at bK;have C:(w1.alloc (.cells #[.pointer (some ⟨tb,0,none⟩)] 94)).cell? ⟨w1.heap.size,0,none⟩=some (.pointer (some ⟨tb,0,none⟩)):=by rw[World.cell?_alloc_new];rfl
  have B:gb+1<=(w1.alloc (.cells #[.pointer (some ⟨tb,0,none⟩)] 94)).heap.size:=by have:=aN.size;have:=ak.size;omega
  have aj:=hyd (G1.below (by omega) aN);have aZ:=hyd bb;have J:=hyd6 aS az bj aA ak bc;have ap:=hyd e0;have ar:Hid (((List.range i).map λr=>Value.pointer (some ⟨tr r,0,none⟩)).length=i):=by show _=_;simp
  have ct:i<8:=by omega
  clear aS az ai bJ aA bc bb bO G1 e0 aN ak bj cb cs aW;go_wp2_with (first|(with_reducible show wpList _ _ _ (⟨_,Op.call { callee:=Callee.builtin Builtin.append,args:=_,argTypes:=_ },_,_,_,_⟩::_) _ _;refine Stop.out ?_));refine⟨?_⟩;refine q0t 93 94 Tryz.underlying93 y0D rfl (by omega) (by rfl) _ _ (by rfl) (gb+1) (.slice a0 i c0) _ (by rfl) a7 (by rw[ar.out];omega) w1.heap.size (.pointer (some ⟨tb,0,none⟩)) rfl (by rfl) C B _ rfl ?_;rw[ar.out];intro g0 ah w5 A d v _;have ac:w5.cell? ⟨gb,0,none⟩=some (.slice a0 i c0)/\w5.frozen? ⟨gb,0,none⟩=false:=by
   have:=(aj.out.c.block (d.block gb (aj.out.lt (by omega)) (λe=>by have:=((aj.out.o 0 (by omega)).lt gb (by rw[ap.out];exact e.symm)).1;omega))) 0 (vs 0) rfl;rw[ap.out]at this;exact this
  obtain⟨V,W⟩:=ac;obtain⟨G6,A6,s6,_⟩:=aj.out.app (i:=0) (by omega) (t:=.pointer (some ⟨tb,0,none⟩)) (g:=g0) (len:=i+1) (cap:=ah) (by rw[ap.out];exact d) (by rw[I.out.l0];exact A) (by rw[ap.out];exact v);obtain⟨O,h6⟩:=nam (w5.setCell ⟨gb,0,none⟩ (.slice (some ⟨g0,0,none⟩) (i+1) ah));have H6:=hyd h6;rw[<-h6]at G6 A6 s6;have cc:=(box_bel w1 (.cells #[.pointer (some ⟨tb,0,none⟩)] 94)).size;have al:AgX X1 w1 O:=AgX.trans (λk hk=>(box_bel w1 (.cells #[.pointer (some ⟨tb,0,none⟩)] 94)).block k (J.out.2.2.2.2.2 k hk)) A6;have bS:=aZ.out.t O al (by omega);have cT:=bS.c;have B6:Below w.heap.size w O:=by
   have ak:=J.out.2.2.2.2.1;have x1:=I.out.b.trans (ak.mono I.out.b.size);have x2:=x1.trans ((box_bel w1 (.cells #[.pointer (some ⟨tb,0,none⟩)] 94)).mono x1.size);have x3:Below w.heap.size w w5:=x2.grown d x2.size (λq hq=>by
    have:=((aj.out.o 0 (by omega)).lt q (by rw[ap.out];exact hq)).1;have:=aq.out;omega)
   rw[h6];exact x3.setCell (p:=⟨gb,0,none⟩) (by have:=aq.out;show _<=gb;omega) _
  have bx:Hid (G5 gb (gb+1) 5 gTy (upV vs 0 (.slice (some ⟨g0,0,none⟩) (i+1) ah)) (upV ls 0 (ls 0++[.pointer (some ⟨tb,0,none⟩)])) X1 O/\AgX X1 w1 O/\w1.heap.size<=O.heap.size/\Below w.heap.size w O):=⟨G6,al,by omega,B6⟩;have bQ:=bC.out O N (by omega);have co:(N:Int)<=20000:=by omega
  clear G6 A6 s6 h6 A d v a7 C B al bS B6 cc;go_wp2_with (first|(with_reducible refine gld 114 ?_;refine Stop.out ?_));refine⟨?_⟩;rw[<-H6.out];clear V W bK;go_wp2_with fail;obtain⟨ib,aC⟩:=nam O.heap.size;rw[<-aC];have aB:=box_bel O (.cells (zeroI N).toArray 3);obtain⟨L0,a6⟩:=nam ((List.range (i+1)).map λr=>Value.pointer (some ⟨upV tr i tb r,0,none⟩));have bV:=hyd a6;have bv:Hid (GI gb (gb+1) i es ib 0 L0 (ls 3) (upV Ts i T) (upV Ns i N) ti nd (upV vs 0 (.slice (some ⟨g0,0,none⟩) (i+1) ah)) (upV ls 0 (ls 0++[.pointer (some ⟨tb,0,none⟩)])) X1 w w1 (O.alloc (.cells (zeroI N).toArray 3))):=by
   obtain⟨G6,al,cu,B6⟩:=bx.out;refine⟨⟨G6.below (by omega) aB,?_,by rw[aC];simp,λj hj e=>?_,⟨λe=>?_,?_⟩,al.trans (λk hk=>aB.block k (G6.x k hk).1),by have:=aB.size;omega,B6.trans (aB.mono B6.size),by have:=aq.out;exact⟨by omega,by rw[aC];exact B6.size⟩⟩,?_,?_,?_,?_,?_,?_⟩
   ·have h1:=TC.boxed O (zeroI N) 3;rw[<-aC]at h1;rw[q0i,q0i,q0C (g:=λ_=>0) (λq _=>by unfold ixT;rw[if_neg (by omega)])];exact h1
   ·have:=((G6.o j hj).lt ib e).2;omega
   ·have:=(G6.x ib e).1;omega
   ·have:=G6.lt (by omega);omega
   ·rw[q0i,I.out.l0,a6,List.range_succ,List.map_append];congr 1
    ·refine List.map_congr_left (λr hr=>?_);rw[q0f _ _ (by have:=List.mem_range.1 hr;omega)]
    simp[q0i]
   ·rw[q0f _ _ (by omega)];exact I.out.l1
   ·rw[q0f _ _ (by omega)];exact I.out.l2
   ·rw[q0f _ _ (by omega)]
   ·rw[q0f _ _ (by omega)];exact I.out.l4
   rw[q0i];exact I.out.p.tree T N
  clear bx aB aC bQ a6 cT aj ca
  go_loopw [7] (λx w'=>∃(k:Nat) (ag af:List Nat) (Z:Nat->Value) (D:Nat->List Value),k<=N/\x=.int .i64 k/\GI gb (gb+1) i es ib k L0 (ls 3) (upV Ts i T) (upV Ns i N) ag af Z D X1 w w1 w') (λx _=>N-(intOf x).toNat)
  ·exact⟨0,ti,nd,_,_,by omega,rfl,bv.out⟩
  clear bv;obtain⟨k,ag,af,Z,D,hk,rfl,u⟩:=hrel;have tm:=aZ.out.t wr u.st.a u.st.z;have cT:=tm.c;obtain⟨L,hL⟩:=nam (netN es i+clN T k);have cd:L<=96:=by
   have h1:=q1V T hk;have h2:=J.out.2.1.cl;rw[Nat.sub_add_cancel bG]at h2;simp only[clN,Nat.zero_add]at h2;have h3:=q0M es (show i+1<=R from be);simp only[netN]at h3;omega
  have H:=u.p;rw[q0i,<-hL]at H;have HL:=hyd hL;by_cases aM:k<N
  ·have ch:(k:Int)<N:=by omega
   have ck:=tm.nod aM;obtain⟨kd,aD⟩:=nam ((T k).kind);rw[<-aD]at ck;have bX:=hyd aD;have Q:=hyd u;by_cases h0:kd=0
   ·have q0:((kd:Int)==0)=true:=by simp[h0]
    obtain⟨a1,c1,e1,_⟩:=(u.st.g.o 1 (by omega)).form;rw[u.l1,List.length_map,H.a]at e1;have aa:=(u.st.g.cell (i:=1) (by omega)).1;rw[e1]at aa;obtain⟨a2,c2,e2,_⟩:=(u.st.g.o 2 (by omega)).form;rw[u.l2,List.length_map,H.b]at e2;have S0:=u.st;rw[q0i,q0i]at S0;obtain⟨x1,x2⟩:=S0.x k _ (q1l _ aM);have S2:=S0.put (k:=k) (by rw[q1d];exact aM) (.int .i64 (L:Int));have aO:=box_bel (wr.setCell ⟨ib,k,none⟩ (.int .i64 (L:Int))) (.cells #[.int .i64 (i:Int)] 3);have S3:=S2.below aO;have aK:=S3.g.o 1 (by omega);rw[e1,u.l1]at aK;have U:=(S2.g.cell (i:=1) (by omega)).1;rw[e1]at U;obtain⟨w2,bn⟩:=nam (wr.setCell ⟨ib,k,none⟩ (.int .i64 (L:Int)));have b0:=hyd bn;rw[<-bn]at S2 aO S3 aK U;have C:(w2.alloc (.cells #[.int .i64 (i:Int)] 3)).cell? ⟨w2.heap.size,0,none⟩=some (.int .i64 (i:Int)):=by rw[World.cell?_alloc_new];rfl
    have B:gb+1<=(w2.alloc (.cells #[.int .i64 (i:Int)] 3)).heap.size:=by have:=aO.size;have:=S2.g.lt (by omega);omega
    have au:Hid ((ag.map intN).length=L):=by show _=_;rw[List.length_map,H.a]
    have av:Hid ((af.map intN).length=L):=by show _=_;rw[List.length_map,H.b]
    have F:=hyd S3;have aF:=hyd e1;have a5:=hyd e2;have Hl:=hyd2 u.l1 u.l2;clear u S0 S2 S3 aO e1 e2 bn H tm hL aD h0;go_wp2_with (first|(with_reducible refine gst 3 ?_;refine Stop.out ?_));refine⟨?_⟩;go_wp2_with (first|(with_reducible refine gld 23 ?_;refine Stop.out ?_));refine⟨?_⟩;rw[<-b0.out];clear aa x1 x2 ck cT;go_wp2_with (first|(with_reducible show wpList _ _ _ (⟨_,Op.call { callee:=Callee.builtin Builtin.append,args:=_,argTypes:=_ },_,_,_,_⟩::_) _ _;refine Stop.out ?_));refine⟨?_⟩;refine q0t 23 3 Tryz.underlying23 eInfoInt rfl (by omega) (by rfl) _ _ (by rfl) (gb+1) (.slice a1 L c1) _ (by rfl) aK (by rw[au.out];omega) w2.heap.size (.int .i64 (i:Int)) rfl (by rfl) C B _ rfl ?_;rw[au.out];intro g1 y w5 A d v _;have ac:w5.cell? ⟨gb,1,none⟩=some (.slice a1 L c1)/\w5.frozen? ⟨gb,1,none⟩=false:=by
     have:=(F.out.g.c.block (d.block gb (F.out.g.lt (by omega)) (λe=>by have:=((F.out.g.o 1 (by omega)).lt gb (by rw[aF.out];exact e.symm)).1;omega))) 1 (Z 1) rfl;rw[aF.out]at this;exact this
    obtain⟨V,W⟩:=ac;have S6:=F.out.app (i:=1) (by omega) (t:=.int .i64 (i:Int)) (g:=g1) (len:=L+1) (cap:=y) (by rw[aF.out];exact d) (by rw[Hl.out.1];exact A) (by rw[aF.out];exact v);obtain⟨O,h6⟩:=nam (w5.setCell ⟨gb,1,none⟩ (.slice (some ⟨g1,0,none⟩) (L+1) y));have H6:=hyd h6;rw[<-h6]at S6;have ab:=(S6.g.cell (i:=2) (by omega)).1;rw[q0f _ _ (by omega),a5.out]at ab;have bp:=box_bel O (.cells #[.int .i64 (k:Int)] 3);have S7:=S6.below bp;have a8:=S7.g.o 2 (by omega);rw[q0f _ _ (by omega),q0f _ _ (by omega),a5.out,Hl.out.2]at a8;have aV:(O.alloc (.cells #[.int .i64 (k:Int)] 3)).cell? ⟨O.heap.size,0,none⟩=some (.int .i64 (k:Int)):=by rw[World.cell?_alloc_new];rfl
    have aT:gb+1<=(O.alloc (.cells #[.int .i64 (k:Int)] 3)).heap.size:=by have:=bp.size;have:=S6.g.lt (by omega);omega
    have ao:=hyd S7;clear S6 S7 h6 A d v aK C B bp U F;go_wp2_with (first|(with_reducible refine gld 23 ?_;refine Stop.out ?_));refine⟨?_⟩;rw[<-H6.out];clear V W;go_wp2_with (first|(with_reducible show wpList _ _ _ (⟨_,Op.call { callee:=Callee.builtin Builtin.append,args:=_,argTypes:=_ },_,_,_,_⟩::_) _ _;refine Stop.out ?_));refine⟨?_⟩;refine q0t 23 3 Tryz.underlying23 eInfoInt rfl (by omega) (by rfl) _ _ (by rfl) (gb+1) (.slice a2 L c2) _ (by rfl) a8 (by rw[av.out];omega) O.heap.size (.int .i64 (k:Int)) rfl (by rfl) aV aT _ rfl ?_;rw[av.out];intro g2 ay w8 bH M aU _;have aI:upV Z 1 (.slice (some ⟨g1,0,none⟩) (L+1) y) 2=.slice a2 L c2:=by rw[q0f _ _ (by omega),a5.out]
    have b9:w8.cell? ⟨gb,2,none⟩=some (.slice a2 L c2)/\w8.frozen? ⟨gb,2,none⟩=false:=by
     have:=(ao.out.g.c.block (M.block gb (ao.out.g.lt (by omega)) (λe=>by have:=((ao.out.g.o 2 (by omega)).lt gb (by rw[aI];exact e.symm)).1;omega))) 2 _ rfl;rw[aI]at this;exact this
    obtain⟨cf,cg⟩:=b9;have S9:=ao.out.app (i:=2) (by omega) (t:=.int .i64 (k:Int)) (g:=g2) (len:=L+1) (cap:=ay) (by rw[aI];exact M) (by rw[q0f _ _ (by omega),Hl.out.2];exact bH) (by rw[aI];exact aU);have aY:Hid (GI gb (gb+1) i es ib (k+1) L0 (ls 3) (upV Ts i T) (upV Ns i N) (ag++[i]) (af++[k]) (upV (upV Z 1 (.slice (some ⟨g1,0,none⟩) (L+1) y)) 2 (.slice (some ⟨g2,0,none⟩) (L+1) ay)) (upV (upV D 1 (D 1++[intN i])) 2 (D 2++[intN k])) X1 w w1 (w8.setCell ⟨gb,2,none⟩ (.slice (some ⟨g2,0,none⟩) (L+1) ay))):=by
     refine Q.out.letter (by rw[q0i,<-bX.out];simpa using q0) (by rw[q0i];exact aM) ?_;rw[q0i,q0i,<-HL.out];have e3:upV D 1 (D 1++[Value.int .i64 (i:Int)]) 2=D 2:=q0f _ _ (by omega);rw[e3]at S9;exact S9
    clear S9 bH M aU a8 aV aT ao Q ab;go_wp2_with fail;go_roundw
    ·exact⟨k+1,ag++[i],af++[k],_,_,by omega,by go_num,aY.out⟩
    simp[intOf];omega
   have q0:((kd:Int)==0)=false:=by simp;omega
   have aY:=hyd (u.skip (by rw[q0i,<-aD];exact h0));clear u tm aD hL H;go_wp2_with fail;go_roundw
   ·exact⟨k+1,ag,af,Z,D,by omega,by go_num,aY.out⟩
   simp[intOf];omega
  have⟨hge,hkN⟩:¬(k:Int)<N/\k=N:=by omega
  subst hkN;obtain⟨a3,c3,e3,_⟩:=(u.st.g.o 3 (by omega)).form;rw[u.l3,I.out.l3,List.length_map,List.length_range]at e3;have bM:=(u.st.g.cell (i:=3) (by omega)).1;rw[e3]at bM;have bo:=box_bel wr (.cells #[.slice (some ⟨ib,0,none⟩) k k] 23);have S3:=u.st.below bo;have a9:=S3.g.o 3 (by omega);rw[e3,u.l3,I.out.l3]at a9;have C:(wr.alloc (.cells #[.slice (some ⟨ib,0,none⟩) k k] 23)).cell? ⟨wr.heap.size,0,none⟩=some (.slice (some ⟨ib,0,none⟩) k k):=by rw[World.cell?_alloc_new];rfl
  have B:gb+1<=(wr.alloc (.cells #[.slice (some ⟨ib,0,none⟩) k k] 23)).heap.size:=by have:=bo.size;have:=u.st.g.lt (by omega);omega
  have aw:Hid (((List.range i).map λr=>Value.slice (some ⟨xb r,0,none⟩) (Ns r) (Ns r)).length=i):=by show _=_;simp
  have aG:=hyd e3;have bY:Hid (D 3=(List.range i).map λr=>Value.slice (some ⟨xb r,0,none⟩) (Ns r) (Ns r)):=by show _=_;rw[u.l3,I.out.l3]
  have F:=hyd S3;have Q:=hyd u;clear u S3 bo e3 tm hL H;go_wp2_with (first|(with_reducible show wpList _ _ _ (⟨_,Op.call { callee:=Callee.builtin Builtin.append,args:=_,argTypes:=_ },_,_,_,_⟩::_) _ _;refine Stop.out ?_));refine⟨?_⟩;refine q0t 53 23 Tryz.underlying53 q4K rfl (by omega) (by rfl) _ _ (by rfl) (gb+1) (.slice a3 i c3) _ (by rfl) a9 (by rw[aw.out];omega) wr.heap.size (.slice (some ⟨ib,0,none⟩) k k) rfl (by rfl) C B _ rfl ?_;rw[aw.out];intro g1 y w5 A d v _;have ac:w5.cell? ⟨gb,3,none⟩=some (.slice a3 i c3)/\w5.frozen? ⟨gb,3,none⟩=false:=by
   have:=(F.out.g.c.block (d.block gb (F.out.g.lt (by omega)) (λe=>by have:=((F.out.g.o 3 (by omega)).lt gb (by rw[aG.out];exact e.symm)).1;omega))) 3 (Z 3) rfl;rw[aG.out]at this;exact this
  obtain⟨V,W⟩:=ac;have S6:=F.out.app (i:=3) (by omega) (t:=.slice (some ⟨ib,0,none⟩) k k) (g:=g1) (len:=i+1) (cap:=y) (by rw[aG.out];exact d) (by rw[bY.out];exact A) (by rw[aG.out];exact v);have bT:Hid (GW gb (gb+1) (i+1) es (upV tr i tb) (upV ad i g) (upV cp i bE) (upV xb i ib) (upV ms i m) (upV Ts i T) (upV Ns i k) ag af (upV Z 3 (.slice (some ⟨g1,0,none⟩) (i+1) y)) (upV D 3 (D 3++[.slice (some ⟨ib,0,none⟩) k k])) (λq=>X1 q\/q=ib) w (w5.setCell ⟨gb,3,none⟩ (.slice (some ⟨g1,0,none⟩) (i+1) y))):=by
   obtain⟨b5,b6,cm,b7,bF,cn⟩:=J.out;refine I.out.next b5 bG b8 b6 aZ.out (λq hq=>by rw[b7];exact Or.inl hq) (λq hq=>bF.block q (I.out.g.x q hq).1) bF.size (by rw[<-bV.out];exact Q.out) (λq=>Iff.rfl) S6
  clear S6 A d v a9 C B F Q bM cT;go_wp2_with fail;go_roundw
  ·exact⟨i+1,_,_,_,_,_,_,_,_,_,_,_,_,by omega,by go_num,bT.out⟩
  simp[intOf];omega
 have⟨hge,hiR⟩:¬(i:Int)<R/\i=R:=by omega
 subst hiR;obtain⟨P,K⟩:=nam (netN es i);have Y:ti.length=P:=by rw[G.p.a,K]
 have ae:nd.length=P:=by rw[G.p.b,K]
 have S:Gm i Ts Ns es (λq=>ti.getD q 0) (λq=>nd.getD q 0):=⟨λr hr=>by
  obtain⟨t1,t2,t3,t4,_⟩:=G.t r hr;exact⟨t1,t2,t4⟩,λp hp=>G.p.p p hp⟩
 have bU:Hid (Gm i Ts Ns es (λq=>ti.getD q 0) (λq=>nd.getD q 0)/\(∀r,r<i->Ns r<=20000)/\P=netN es i/\ti.length=P/\nd.length=P):=⟨S,λr hr=>(G.t r hr).2.2.1,K,Y,ae⟩;have bz:Hid (GNx gb (gb+1) i P es tr ad cp xb (λ_=>0) ms Ts Ns ti nd 0 vs ls X w wr):=⟨G.g,G.l0,G.l1,G.l2,G.l3,G.l4,λr hr=>(G.t r hr).2.2.2.2,G.x,λq hq=>by omega,G.b,G.s⟩;have ce:P<=96:=by omega
 have cq:(P:Int)<=96:=by omega
 clear G Y ae S K bB bw bC;go_wp2_with fail
 go_loopw [8] (λx w'=>∃(p:Nat) (sk:Nat->Nat) (vs:Nat->Value) (ls:Nat->List Value) (X:Nat->Prop),p<=P/\x=.int .i64 p/\GNx gb (gb+1) i P es tr ad cp xb sk ms Ts Ns ti nd p vs ls X w w') (λx _=>P-(intOf x).toNat)
 ·exact⟨0,_,_,_,_,by omega,rfl,bz.out⟩
 clear bz;obtain⟨p,sk,vs,ls,X,hp,rfl,E⟩:=hrel;obtain⟨S,aJ,K,Y,ae⟩:=bU.out;have gx:=E.gx Y;have o1:=E.g.o 1 (by omega);rw[E.l1]at o1;obtain⟨a1,c1,e1,aQ⟩:=OwnV.il (l:=ti) o1;rw[Y]at e1 aQ;have aa:=(E.g.cell (i:=1) (by omega)).1;rw[e1]at aa;have o2:=E.g.o 2 (by omega);rw[E.l2]at o2;obtain⟨a2,c2,e2,aR⟩:=OwnV.il (l:=nd) o2;rw[ae]at e2 aR;have ab:=(E.g.cell (i:=2) (by omega)).1;rw[e2]at ab;by_cases H:p<P
 ·have cj:(p:Int)<P:=by omega
  obtain⟨p1,p2,p3,p4⟩:=S.p p (by omega);obtain⟨b1,bq,e3,d1⟩:=aQ p H;obtain⟨b2,br,e4,d2⟩:=aR p H;subst e3;subst e4;obtain⟨tp,bm⟩:=nam (ti.getD p 0);obtain⟨np,bf⟩:=nam (nd.getD p 0);simp only[<-bm,<-bf]at p1 p2 p3 p4 d1 d2;have bA:=hyd (q3s gb P i wr (by omega) (by omega) gx.gl);have bI:¬gXX gb vs X wr.heap.size:=λe=>by have:=gx.s _ e;omega
  have bt:Hid (∀w',Below wr.heap.size wr w'->TC wr.heap.size (bl (λ_=>false) (P+i)) w'->Calls Tryz.prog 53 #[.pointer (some ⟨gb,0,none⟩),.int .i64 tp,.int .i64 np,.slice (some ⟨wr.heap.size,0,none⟩) (P+i) (P+i)] w' (JnPost wr.heap.size (P+i) (λ_=>false) (bhS (Ts tp) (Ns tp) (ixR es Ts tp) P tp np) w')):=λw' hW hT=>by
   have g1:=gx.below hW;rw[K]at g1 hT ⊢;exact q5B (gXX gb vs X) gb i tr ad cp ms Ts Ns es _ _ S (by omega) (by omega) aJ tp p1 wr.heap.size _ bI (Ns tp+1) np (λ_=>false) w' (by omega) p2 g1 hT
  have HF:Hid (∀q,(false || bhS (Ts tp) (Ns tp) (ixR es Ts tp) P tp np q)=nxR es Ts Ns (λi=>ti.getD i 0) (λi=>nd.getD i 0) P p q):=λq=>by
   unfold nxR;simp only[<-bm,<-bf,Bool.false_or]
  have an:=hyd E;clear gx o1 o2 aQ aR e1 e2 E S p2 p3 p4 bm bf bI K Y ae aJ;go_wp2_with fail;refine bA.out.mono ?_;rintro e w1 ⟨rfl,T1,B1,s1⟩;have U:w1.cell? ⟨gb,1,none⟩=some (.slice (some ⟨b1,bq,none⟩) P c1):=by rw[B1.cell (p:=⟨gb,1,none⟩) (World.block_lt_of_cell? wr _ aa)];exact aa
  have bL:w1.cell? ⟨gb,2,none⟩=some (.slice (some ⟨b2,br,none⟩) P c2):=by rw[B1.cell (p:=⟨gb,2,none⟩) (World.block_lt_of_cell? wr _ ab)];exact ab
  have b3:w1.cell? ⟨b1,bq+p,none⟩=some (.int .i64 (tp:Int)):=by rw[B1.cell (p:=⟨b1,bq+p,none⟩) (World.block_lt_of_cell? wr _ d1)];exact d1
  have b4:w1.cell? ⟨b2,br+p,none⟩=some (.int .i64 (np:Int)):=by rw[B1.cell (p:=⟨b2,br+p,none⟩) (World.block_lt_of_cell? wr _ d2)];exact d2
  have aE:=hyd2 T1 B1;clear T1 bA aa ab d1 d2 B1;go_wp2_with fail;refine wp_region_still_tail 16 (by kernel_rfl) (by kernel_rfl) ?_;simp only[List.take_succ_cons,List.take_zero,List.drop_succ_cons,List.drop_zero];change wpStill _ _ w1.drew (λa'=>wpList _ _ _ _ a' w1.drew) _ _
  repeat still_step
  refine wpStill_nil ?_;have bu:=hyd (bt.out w1.drew aE.out.2.drew aE.out.1);clear U bL b3 b4;go_wp2_with fail;refine bu.out.mono ?_;rintro e w2 ⟨rfl,bD,F2⟩;have B2:=aE.out.2.drew.trans F2.b;have s2:wr.heap.size<w2.heap.size:=by
   have h1:w1.drew.heap.size=w1.heap.size:=rfl;have:=F2.b.size;omega
  obtain⟨sb,bi⟩:=nam wr.heap.size;have G2:=an.out.g.below (by omega) B2;obtain⟨a4,c4,e4,_⟩:=(G2.o 4 (by omega)).form;rw[an.out.l4,List.length_map,List.length_range]at e4;have bN:=(G2.cell (i:=4) (by omega)).1;rw[e4]at bN;have aP:=box_bel w2 (.cells #[.slice (some ⟨wr.heap.size,0,none⟩) (P+i) (P+i)] 78);have G4:=G2.below (by omega) aP;have aL:=G4.o 4 (by omega);rw[e4,an.out.l4]at aL;have C:(w2.alloc (.cells #[.slice (some ⟨wr.heap.size,0,none⟩) (P+i) (P+i)] 78)).cell? ⟨w2.heap.size,0,none⟩=some (.slice (some ⟨wr.heap.size,0,none⟩) (P+i) (P+i)):=by rw[World.cell?_alloc_new];rfl
  have B:gb+1<=(w2.alloc (.cells #[.slice (some ⟨wr.heap.size,0,none⟩) (P+i) (P+i)] 78)).heap.size:=by have:=aP.size;have:=G2.lt (by omega);omega
  have ax:Hid (((List.range p).map λq=>Value.slice (some ⟨sk q,0,none⟩) (P+i) (P+i)).length=p):=by show _=_;simp
  have aH:=hyd e4;have am:=hyd G4;have H2:=hyd4 bD B2 s2 aP;rw[<-bi]at aL C B am ⊢;have bZ:=hyd bi;clear bD F2 B2 s2 G2 G4 e4 aP bi bu bt aE;go_wp2_with (first|(with_reducible show wpList _ _ _ (⟨_,Op.call { callee:=Callee.builtin Builtin.append,args:=_,argTypes:=_ },_,_,_,_⟩::_) _ _;refine Stop.out ?_));refine⟨?_⟩;refine q0t 74 78 Tryz.underlying74 q4L rfl (by omega) (by rfl) _ _ (by rfl) (gb+1) (.slice a4 p c4) _ (by rfl) aL (by rw[ax.out];omega) w2.heap.size (.slice (some ⟨sb,0,none⟩) (P+i) (P+i)) rfl (by rfl) C B _ rfl ?_;rw[ax.out];intro g1 y w5 A d v _;have ac:w5.cell? ⟨gb,4,none⟩=some (.slice a4 p c4)/\w5.frozen? ⟨gb,4,none⟩=false:=by
   have:=(am.out.c.block (d.block gb (am.out.lt (by omega)) (λe=>by have:=((am.out.o 4 (by omega)).lt gb (by rw[aH.out];exact e.symm)).1;omega))) 4 (vs 4) rfl;rw[aH.out]at this;exact this
  obtain⟨V,W⟩:=ac;have bW:Hid (GNx gb (gb+1) i P es tr ad cp xb (upV sk p sb) ms Ts Ns ti nd (p+1) (upV vs 4 (.slice (some ⟨g1,0,none⟩) (p+1) y)) (upV ls 4 (ls 4++[.slice (some ⟨sb,0,none⟩) (P+i) (P+i)])) (λk=>X k\/k=sb) w (w5.setCell ⟨gb,4,none⟩ (.slice (some ⟨g1,0,none⟩) (p+1) y))):=by
   obtain⟨x1,x2,x3,x4⟩:=H2.out;rw[bZ.out]at d A v ⊢;exact an.out.next x2 x1 x3 (λq _=>HF.out q) x4 (by rw[aH.out];exact d) (by rw[an.out.l4];exact A) (by rw[aH.out];exact v)
  clear A d v aL C B am bN;go_wp2_with fail;go_roundw
  ·exact⟨p+1,_,_,_,_,by omega,by go_num,bW.out⟩
  simp[intOf];omega
 have⟨hge2,hpP⟩:¬(p:Int)<P/\p=P:=by omega
 subst hpP;have HR:=hyd (E.post K aq.out S aJ Y ae);clear gx o1 o2 aQ aR e1 e2 E S K Y ae aJ;go_wp2_with fail;go_ret;exact HR.out
end Go.Proofs.YtoaaklhpmhjhkaaGreat
