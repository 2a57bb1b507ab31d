import Derived.Test.YtoaaklhpmhjhkaaGreatC39
set_option maxRecDepth 100000
set_option maxHeartbeats 4000000
set_option linter.all false
namespace Go.Proofs.YtoaaklhpmhjhkaaGreat
open Go.RowKit
open Bm
structure L6 (gb base nc n:Nat) (ty:Nat->TypeId) (vs:Nat->Value) (ls:Nat->List Value) (X:Nat->Prop) (w:World):Prop where
 c:TC gb ((List.range nc).map vs) w
 o:∀i,i<n->OwnV base (ty i) (vs i) (ls i) w
 d:∀i j k,i<n->j<n->i≠j->(vs i).ownBlock=some k->(vs j).ownBlock≠some k
 x:∀k,X k->k<w.heap.size/\k≠gb/\∀i,i<n->(vs i).ownBlock≠some k
 g:gb<base
 le:nc<=n
variable {x : Int}{l : List (Nat → Bool)}{lx : List Value}{base cap g gb i len n nc tob : Nat}{ls : Nat → List Value}{X X' : Nat → Prop}{vs : Nat → Value}{w w' w5 : World}
theorem L6.cell {ty:Nat->TypeId} (h:L6 gb base nc n ty vs ls X w) {i:Nat} (hi:i<nc):w.cell? ⟨gb,i,none⟩=some (vs i)/\w.frozen? ⟨gb,i,none⟩=false:=h.c i (vs i) (by simp[hi])
theorem L6.lt {ty:Nat->TypeId} (h:L6 gb base nc n ty vs ls X w) (hn:0<nc):gb<w.heap.size:=World.block_lt_of_cell? w _ (h.cell hn).1
theorem L6.keep {ty:Nat->TypeId} (h:L6 gb base nc n ty vs ls X w) (h0:w'.heap[gb]?=w.heap[gb]?) (hk:∀i k,i<n->(vs i).ownBlock=some k->w'.heap[k]?=w.heap[k]?) (hx:∀k,X' k->k<w'.heap.size/\k≠gb/\∀i,i<n->(vs i).ownBlock≠some k):L6 gb base nc n ty vs ls X' w':=
 ⟨h.c.block h0,λi b=>q0R (h.o i b) (λk a=>hk i k b a),h.d,hx,h.g,h.le⟩
theorem L6.below {ty:Nat->TypeId} (h:L6 gb base nc n ty vs ls X w) (hn:0<nc) (hW:Below w.heap.size w w'):L6 gb base nc n ty vs ls X w':=
 h.keep (hW.block _ (h.lt hn)) (λi k b a=>hW.block k ((h.o i b).lt k a).2) (λk a=>⟨by have:=(h.x k a).1;have:=hW.size;omega,(h.x k a).2⟩)
theorem L6.more {ty:Nat->TypeId} (h:L6 gb base nc n ty vs ls X w) (hx:∀k,X' k->X k\/(k<w.heap.size/\k≠gb/\∀i,i<n->(vs i).ownBlock≠some k)):L6 gb base nc n ty vs ls X' w:=
 ⟨h.c,h.o,h.d,λk b=>by
  rcases hx k b with a|a
  ·exact h.x k a
  exact a,h.g,h.le⟩
theorem L6.app {gb base nc n:Nat}{ty:Nat->TypeId}{vs:Nat->Value}{ls:Nat->List Value}{X:Nat->Prop}{w w5:World} (h:L6 gb base nc n ty vs ls X w) {i:Nat} (hic:i<nc) {t:Value}{g len cap:Nat} (hg:w.grownBy w5 (vs i).ownBlock) (ho:OwnV base (ty i) (.slice (some ⟨g,0,none⟩) len cap) (ls i++[t]) w5) (hb:(vs i).ownBlock=some g\/g=w.heap.size):
  L6 gb base nc n ty (upV vs i (.slice (some ⟨g,0,none⟩) len cap)) (upV ls i (ls i++[t])) X (w5.setCell ⟨gb,i,none⟩ (.slice (some ⟨g,0,none⟩) len cap))/\AgX X w (w5.setCell ⟨gb,i,none⟩ (.slice (some ⟨g,0,none⟩) len cap))/\w.heap.size<=(w5.setCell ⟨gb,i,none⟩ (.slice (some ⟨g,0,none⟩) len cap)).heap.size /\
  (∀k,k<w.heap.size->k≠gb->(vs i).ownBlock≠some k->(w5.setCell ⟨gb,i,none⟩ (.slice (some ⟨g,0,none⟩) len cap)).heap[k]?=w.heap[k]?):=by
 have D:i<n:=by have:=h.le;omega
 have C:=h.lt (by omega);have B:=h.g;have H:=(ho.lt g rfl).1;obtain⟨v,y⟩:∃v,v=w5.setCell ⟨gb,i,none⟩ (.slice (some ⟨g,0,none⟩) len cap):=⟨_,rfl⟩;have s:∀k,k≠gb->v.heap[k]?=w5.heap[k]?:=λk a=>by rw[y];exact Below.heap_setCell w5 ⟨gb,i,none⟩ _ k (λe=>a e)
 have J:v.heap.size=w5.heap.size:=by rw[y,World.size_setCell]
 have I:=hg.size;have b:∀k,k<w.heap.size->k≠gb->(vs i).ownBlock≠some k->v.heap[k]?=w.heap[k]?:=λk p F G=>by rw[s k F,hg.block k p (λe=>G e.symm)]
 have r:∀j,j<n->∀k,(vs j).ownBlock=some k->k≠gb:=λj f k a=>by have:=((h.o j f).lt k a).1;omega
 have u:w5.heap[gb]?=w.heap[gb]?:=hg.block gb C (λe=>r i D gb e.symm rfl);rw[<-y];refine⟨⟨?_,λj f=>?_,λj l k f z q a=>?_,λk a=>?_,B,h.le⟩,λk a=>b k (h.x k a).1 (h.x k a).2.1 ((h.x k a).2.2 i D),by omega,b⟩
 ·rw[y,<-q6P hic];exact(h.c.block u).set i (by simpa using hic) _
 ·by_cases e:j=i
  ·subst e;rw[q0i,q0i];exact q0R ho (λk a=>s k (by
     have m:g=k:=Option.some.inj a;omega))
  rw[q0f _ _ e,q0f _ _ e];exact q0R (h.o j f) (λk a=>b k ((h.o j f).lt k a).2 (r j f k a) (λe2=>h.d j i k f D e a e2))
 ·by_cases E:j=i
  ·subst E;rw[q0i]at a;have m:g=k:=Option.some.inj a;rw[q0f _ _ (λe=>q e.symm)];intro e2;rcases hb with p|p
   ·exact h.d j l k f z q (m▸p) e2
   have:=((h.o l z).lt k e2).2;omega
  rw[q0f _ _ E]at a;by_cases e2:l=i
  ·subst e2;rw[q0i];intro A;have m:g=k:=Option.some.inj A;rcases hb with p|p
   ·exact h.d j l k f z q a (m▸p)
   have:=((h.o j f).lt k a).2;omega
  rw[q0f _ _ e2];exact h.d j l k f z q a
 refine⟨by have:=(h.x k a).1;omega,(h.x k a).2.1,λj f=>?_⟩;by_cases e:j=i
 ·subst e;rw[q0i];intro A;have m:g=k:=Option.some.inj A;rcases hb with p|p
  ·exact(h.x k a).2.2 j f (m▸p)
  have:=(h.x k a).1;omega
 rw[q0f _ _ e];exact(h.x k a).2.2 j f
theorem L6.appN {gb base nc n:Nat}{ty:Nat->TypeId}{vs:Nat->Value}{ls:Nat->List Value}{X:Nat->Prop}{w w5:World} (h:L6 gb base nc n ty vs ls X w) {i:Nat} (hi:i<n) (hic:nc<=i) (hn0:0<nc) {t:Value}{g len cap:Nat} (hg:w.grownBy w5 (vs i).ownBlock) (ho:OwnV base (ty i) (.slice (some ⟨g,0,none⟩) len cap) (ls i++[t]) w5) (hb:(vs i).ownBlock=some g\/g=w.heap.size):
  L6 gb base nc n ty (upV vs i (.slice (some ⟨g,0,none⟩) len cap)) (upV ls i (ls i++[t])) X w5/\AgX X w w5/\w.heap.size<=w5.heap.size /\
  (∀k,k<w.heap.size->k≠gb->(vs i).ownBlock≠some k->w5.heap[k]?=w.heap[k]?):=by
 have z:=h.lt hn0;have y:=h.g;have C:=(ho.lt g rfl).1;have D:=hg.size;have f:∀k,k<w.heap.size->k≠gb->(vs i).ownBlock≠some k->w5.heap[k]?=w.heap[k]?:=λk p _ B=>hg.block k p (λe=>B e.symm)
 have r:∀j,j<n->∀k,(vs j).ownBlock=some k->k≠gb:=λj b k a=>by have:=((h.o j b).lt k a).1;omega
 have s:w5.heap[gb]?=w.heap[gb]?:=hg.block gb z (λe=>r i hi gb e.symm rfl);refine⟨⟨?_,λj b=>?_,λj l k b u q a=>?_,λk a=>?_,y,h.le⟩,λk a=>f k (h.x k a).1 (h.x k a).2.1 ((h.x k a).2.2 i hi),by omega,f⟩
 ·have e:(List.range nc).map (upV vs i (.slice (some ⟨g,0,none⟩) len cap))=(List.range nc).map vs:=List.map_congr_left (λj b=>q0f _ _ (by have:=List.mem_range.1 b;omega));rw[e];exact h.c.block s
 ·by_cases e:j=i
  ·subst e;rw[q0i,q0i];exact ho
  rw[q0f _ _ e,q0f _ _ e];exact q0R (h.o j b) (λk a=>f k ((h.o j b).lt k a).2 (r j b k a) (λe2=>h.d j i k b hi e a e2))
 ·by_cases A:j=i
  ·subst A;rw[q0i]at a;have m:g=k:=Option.some.inj a;rw[q0f _ _ (λe=>q e.symm)];intro e2;rcases hb with p|p
   ·exact h.d j l k b u q (m▸p) e2
   have:=((h.o l u).lt k e2).2;omega
  rw[q0f _ _ A]at a;by_cases e2:l=i
  ·subst e2;rw[q0i];intro v;have m:g=k:=Option.some.inj v;rcases hb with p|p
   ·exact h.d j l k b u q a (m▸p)
   have:=((h.o j b).lt k a).2;omega
  rw[q0f _ _ e2];exact h.d j l k b u q a
 refine⟨by have:=(h.x k a).1;omega,(h.x k a).2.1,λj b=>?_⟩;by_cases e:j=i
 ·subst e;rw[q0i];intro v;have m:g=k:=Option.some.inj v;rcases hb with p|p
  ·exact(h.x k a).2.2 j b (m▸p)
  have:=(h.x k a).1;omega
 rw[q0f _ _ e];exact(h.x k a).2.2 j b
theorem y0C:∃i,Tryz.prog.info? 9=some i/\i.zero=some (.string ByteArray.empty)/\i.size=1/\i.bytes=16:=by
 have b:(Tryz.prog.info? 9).isSome=true:=by kernel_rfl
 obtain⟨i,a⟩:=Option.isSome_iff_exists.1 b;refine⟨i,a,?_,?_,?_⟩
 ·have:((Tryz.prog.info? 9).bind (·.zero))=some (.string ByteArray.empty):=by kernel_rfl
  rw[a]at this;exact this
 ·have:((Tryz.prog.info? 9).map (·.size))=some 1:=by kernel_rfl
  rw[a]at this;simpa using this
 have:((Tryz.prog.info? 9).map (·.bytes))=some 16:=by kernel_rfl
 rw[a]at this;simpa using this
def pTy:Nat->TypeId
 |0=>3
 |1=>23
 |2=>3
 |3=>3
 |4=>78
 |_=>9
theorem q4X (w:World) (o:Obj) (row:Option Nat):w.grownBy (w.alloc o) row:=by
 have h:=box_bel w o;exact⟨h.os,h.tape,h.output,h.size,λi a _=>h.block i a⟩
theorem y0w (w:World) (base:Nat) (te:TypeId) (t:Value) (hb:base<=w.heap.size):OwnV base te (.slice (some ⟨w.heap.size,0,none⟩) 1 1) [t] (w.alloc (.cells #[t] te)):=
 World.ownsRow_lit (base:=base) (e:=te) (size:=1) w #[t] 1 hb (by unfold maxLen;omega) rfl
structure PM (pb base P R:Nat) (E:Nat->Nat->Bool) (l:List (Nat->Bool)) (nv nr:Nat) (vd:Nat->Int) (rw_:Nat->Nat->Int) (sk tk:Nat->Nat) (vs:Nat->Value) (ls:Nat->List Value) (X:Nat->Prop) (w0 w:World):Prop where
 q:L6 pb base 3 6 pTy vs ls X w
 l0:ls 0=(List.range nv).map fun i=>.int .i64 (vd i)
 l1:ls 1=(List.range nr).map fun i=>.slice (some ⟨tk i,0,none⟩) 256 256
 l2:ls 2=(reps E 256).map intN
 l3:ls 3=(List.range 256).map fun a=>intN (least E a)
 l4:ls 4=(List.range l.length).map fun i=>.slice (some ⟨sk i,0,none⟩) (P+R) (P+R)
 l5:ls 5=(List.range l.length).map fun i=>.string (keyS (em P (l.getD i noB)) (P+R))
 st:∀i,i<l.length->∀w',AgX X w w'->w.heap.size<=w'.heap.size->BR (some ⟨sk i,0,none⟩) (em P (l.getD i noB)) (P+R) w'
 rs:∀i,i<nr->∀w',AgX X w w'->w.heap.size<=w'.heap.size->IL (some ⟨tk i,0,none⟩) (rw_ i) 256 w'
 b:Below w0.heap.size w0 w
 s:w0.heap.size<=pb
section
variable {pb base P R : Nat} {E : Nat → Nat → Bool} {l : List (Nat → Bool)} {nv nr : Nat} {vd : Nat → Int} {rw_ : Nat → Nat → Int} {sk tk : Nat → Nat} {vs : Nat → Value} {ls : Nat → List Value} {X : Nat → Prop} {w0 w w' : World}
theorem PM.below (h:PM pb base P R E l nv nr vd rw_ sk tk vs ls X w0 w) (hW:Below w.heap.size w w'):PM pb base P R E l nv nr vd rw_ sk tk vs ls X w0 w':=by
 have ha:AgX X w w':=λk e=>hW.block k (h.q.x k e).1
 have hs:=hW.size;exact⟨h.q.below (by omega) hW,h.l0,h.l1,h.l2,h.l3,h.l4,h.l5,λi c w2 a d=>h.st i c w2 (ha.trans a) (by omega),λi c w2 a d=>h.rs i c w2 (ha.trans a) (by omega),h.b.trans (hW.mono h.b.size),h.s⟩
structure TO (pb tob:Nat) (lx:List Value) (vs:Nat->Value) (X:Nat->Prop) (w0 w:World):Prop where
 x:TC tob lx w
 l:tob<w.heap.size
 d:∀j,j<6->(vs j).ownBlock≠some tob
 n:¬X tob/\tob≠pb
 s:w0.heap.size<=tob
theorem TO.below (h:TO pb tob lx vs X w0 w) (hW:Below w.heap.size w w'):TO pb tob lx vs X w0 w':=
 ⟨h.x.block (hW.block tob h.l),by have:=hW.size;have:=h.l;omega,h.d,h.n,h.s⟩
theorem TO.put (h:TO pb tob lx vs X w0 w) {k:Nat} (hk:k<lx.length) (u:Value):TO pb tob (lx.set k u) vs X w0 (w.setCell ⟨tob,k,none⟩ u):=
 ⟨h.x.set k hk u,by rw[World.size_setCell];exact h.l,h.d,h.n,h.s⟩
theorem PM.put {tob:Nat}{lx:List Value} (h:PM pb base P R E l nv nr vd rw_ sk tk vs ls X w0 w) (t:TO pb tob lx vs X w0 w) (k:Nat) (u:Value):PM pb base P R E l nv nr vd rw_ sk tk vs ls X w0 (w.setCell ⟨tob,k,none⟩ u):=by
 have g:∀q,q≠tob->(w.setCell ⟨tob,k,none⟩ u).heap[q]?=w.heap[q]?:=λq a=>Below.heap_setCell w ⟨tob,k,none⟩ _ q (λe=>a e)
 have hs:(w.setCell ⟨tob,k,none⟩ u).heap.size=w.heap.size:=World.size_setCell ..;have ha:AgX X w (w.setCell ⟨tob,k,none⟩ u):=λq a=>g q (λe=>t.n.1 (e▸a))
 exact⟨h.q.keep (g pb (λe=>t.n.2 e.symm)) (λi q c a=>g q (λe=>t.d i c (e▸a))) (λq a=>⟨by rw[hs];exact(h.q.x q a).1,(h.q.x q a).2⟩),h.l0,h.l1,h.l2,h.l3,h.l4,h.l5,λi c w2 f j=>h.st i c w2 (ha.trans f) (by omega),λi c w2 f j=>h.rs i c w2 (ha.trans f) (by omega),h.b.setCell (p:=⟨tob,k,none⟩) t.s u,h.s⟩
theorem PM.addV (h:PM pb base P R E l nv nr vd rw_ sk tk vs ls X w0 w) (hg:w.grownBy w5 (vs 0).ownBlock) (ho:OwnV base (pTy 0) (.slice (some ⟨g,0,none⟩) len cap) (ls 0++[.int .i64 x]) w5) (hb:(vs 0).ownBlock=some g\/g=w.heap.size) (hx:vd nv=x):
  PM pb base P R E l (nv+1) nr vd rw_ sk tk (upV vs 0 (.slice (some ⟨g,0,none⟩) len cap)) (upV ls 0 (ls 0++[.int .i64 x])) X w0 (w5.setCell ⟨pb,0,none⟩ (.slice (some ⟨g,0,none⟩) len cap)):=by
 obtain⟨f,d,r,n⟩:=h.q.app (i:=0) (by omega) hg ho hb;have k:=h.b.size;have e:Below w0.heap.size w0 w5:=h.b.grown hg (by omega) (λq m=>by have:=((h.q.o 0 (by omega)).lt q m).1;have:=h.q.g;have:=h.s;omega);refine⟨f,?_,?_,?_,?_,?_,?_,λi c w2 a j=>h.st i c w2 (d.trans a) (by omega),λi c w2 a j=>h.rs i c w2 (d.trans a) (by omega),e.setCell (p:=⟨pb,0,none⟩) h.s _,h.s⟩
 ·rw[q0i,h.l0,List.range_succ,List.map_append,<-hx];rfl
 ·rw[q0f _ _ (by omega)];exact h.l1
 ·rw[q0f _ _ (by omega)];exact h.l2
 ·rw[q0f _ _ (by omega)];exact h.l3
 ·rw[q0f _ _ (by omega)];exact h.l4
 rw[q0f _ _ (by omega)];exact h.l5
theorem PM.addR {f:Nat->Int} (h:PM pb base P R E l nv nr vd rw_ sk tk vs ls X w0 w) (t:TO pb tob (inl f 256) vs X w0 w) (hg:w.grownBy w5 (vs 1).ownBlock) (ho:OwnV base (pTy 1) (.slice (some ⟨g,0,none⟩) len cap) (ls 1++[.slice (some ⟨tob,0,none⟩) 256 256]) w5) (hb:(vs 1).ownBlock=some g\/g=w.heap.size) (hx:∀b,b<256->rw_ nr b=f b):
  PM pb base P R E l nv (nr+1) vd rw_ sk (upV tk nr tob) (upV vs 1 (.slice (some ⟨g,0,none⟩) len cap)) (upV ls 1 (ls 1++[.slice (some ⟨tob,0,none⟩) 256 256])) (λk=>X k\/k=tob) w0 (w5.setCell ⟨pb,1,none⟩ (.slice (some ⟨g,0,none⟩) len cap)):=by
 have H:L6 pb base 3 6 pTy vs ls (λk=>X k\/k=tob) w:=h.q.more (λk a=>by
  rcases a with m|m
  ·exact Or.inl m
  subst m;exact Or.inr ⟨t.l,t.n.2,t.d⟩)
 obtain⟨B,u,J,I⟩:=H.app (i:=1) (by omega) hg ho hb;have D:=h.b.size;have A:Below w0.heap.size w0 w5:=h.b.grown hg (by omega) (λq F=>by have:=((h.q.o 1 (by omega)).lt q F).1;have:=h.q.g;have:=h.s;omega);have v:AgX X w (w5.setCell ⟨pb,1,none⟩ (.slice (some ⟨g,0,none⟩) len cap)):=λk a=>u k (Or.inl a)
 refine⟨B,?_,?_,?_,?_,?_,?_,λi y w2 c C=>h.st i y w2 (v.trans (λk a=>c k (Or.inl a))) (by omega),λi y w2 c C=>?_,A.setCell (p:=⟨pb,1,none⟩) h.s _,h.s⟩
 ·rw[q0f _ _ (by omega)];exact h.l0
 ·rw[q0i,h.l1,List.range_succ,List.map_append];congr 1
  ·refine List.map_congr_left (λr G=>?_);rw[q0f _ _ (by have:=List.mem_range.1 G;omega)]
  simp[q0i]
 ·rw[q0f _ _ (by omega)];exact h.l2
 ·rw[q0f _ _ (by omega)];exact h.l3
 ·rw[q0f _ _ (by omega)];exact h.l4
 ·rw[q0f _ _ (by omega)];exact h.l5
 by_cases e:i=nr
 ·subst e;rw[q0i];intro j z;refine⟨tob,0,rfl,?_⟩;rw[Nat.zero_add,hx j z];exact((t.x.block ((c tob (Or.inr rfl)).trans (u tob (Or.inr rfl)))) j _ (q1l f z)).1
 rw[q0f _ _ e];exact h.rs i (by omega) w2 (v.trans (λk a=>c k (Or.inl a))) (by omega)
theorem q6w (h:i<l.length) (g:Nat->Bool):(l++[g]).getD i noB=l.getD i noB:=by
 simp only[List.getD_eq_getElem?_getD,List.getElem?_append_left h]
theorem y1N (l:List (Nat->Bool)) (g:Nat->Bool):(l++[g]).getD l.length noB=g:=by
 simp[List.getD_eq_getElem?_getD]
theorem PM.addS {w2 w3 w5:World}{g1 len1 cap1 g2 len2 cap2 mb:Nat}{m:Nat->Bool} (h:PM pb base P R E l nv nr vd rw_ sk tk vs ls X w0 w) (hmb:TC mb (bl (em P m) (P+R)) w) (hml:mb<w.heap.size) (hmn:mb≠pb/\∀j,j<6->(vs j).ownBlock≠some mb)
  (hg:w.grownBy w2 (vs 4).ownBlock) (ho:OwnV base (pTy 4) (.slice (some ⟨g1,0,none⟩) len1 cap1) (ls 4++[.slice (some ⟨mb,0,none⟩) (P+R) (P+R)]) w2) (hb:(vs 4).ownBlock=some g1\/g1=w.heap.size) (hW:Below w2.heap.size w2 w3)
  (hg2:w3.grownBy w5 (vs 5).ownBlock) (ho2:OwnV base (pTy 5) (.slice (some ⟨g2,0,none⟩) len2 cap2) (ls 5++[.string (keyS (em P m) (P+R))]) w5) (hb2:(vs 5).ownBlock=some g2\/g2=w3.heap.size):
  PM pb base P R E (l++[m]) nv nr vd rw_ (upV sk l.length mb) tk (upV (upV vs 4 (.slice (some ⟨g1,0,none⟩) len1 cap1)) 5 (.slice (some ⟨g2,0,none⟩) len2 cap2)) (upV (upV ls 4 (ls 4++[.slice (some ⟨mb,0,none⟩) (P+R) (P+R)])) 5 (ls 5++[.string (keyS (em P m) (P+R))])) (λk=>X k\/k=mb) w0 w5 /\
  (∀k,k<w.heap.size->k≠pb->(vs 4).ownBlock≠some k->(vs 5).ownBlock≠some k->w5.heap[k]?=w.heap[k]?)/\w.heap.size<=w5.heap.size/\(∀k,k<w.heap.size->(∀j,j<6->(vs j).ownBlock≠some k)->∀j,j<6->(upV (upV vs 4 (.slice (some ⟨g1,0,none⟩) len1 cap1)) 5 (.slice (some ⟨g2,0,none⟩) len2 cap2) j).ownBlock≠some k):=by
 have Z:L6 pb base 3 6 pTy vs ls (λk=>X k\/k=mb) w:=h.q.more (λk a=>by
  rcases a with v|v
  ·exact Or.inl v
  subst v;exact Or.inr ⟨hml,hmn.1,hmn.2⟩)
 obtain⟨G,M,s6,Y⟩:=Z.appN (i:=4) (by omega) (by omega) (by omega) hg ho hb;have Q:=G.below (by omega) hW;have u:upV vs 4 (.slice (some ⟨g1,0,none⟩) len1 cap1) 5=vs 5:=q0f _ _ (by omega);have f:upV ls 4 (ls 4++[.slice (some ⟨mb,0,none⟩) (P+R) (P+R)]) 5=ls 5:=q0f _ _ (by omega);obtain⟨H,N,s8,L⟩:=Q.appN (i:=5) (t:=.string (keyS (em P m) (P+R))) (by omega) (by omega) (by omega) (by rw[u];exact hg2) (by rw[f];exact ho2) (by rw[u];exact hb2);rw[f]at H;rw[u]at L;have W:=hW.size;have d:AgX (λk=>X k\/k=mb) w w5:=M.trans (AgX.trans (λk a=>hW.block k (G.x k a).1) N);have C:AgX X w w5:=λk a=>d k (Or.inl a)
 have V:=h.b.size;have D:Below w0.heap.size w0 w2:=h.b.grown hg (by omega) (λq A=>by have:=((h.q.o 4 (by omega)).lt q A).1;have:=h.q.g;have:=h.s;omega);have F:Below w0.heap.size w0 w3:=D.trans (hW.mono D.size);have O:Below w0.heap.size w0 w5:=F.grown hg2 F.size (λq A=>by have:=((h.q.o 5 (by omega)).lt q A).1;have:=h.q.g;have:=h.s;omega);refine⟨⟨H,?_,?_,?_,?_,?_,?_,λi y w' n U=>?_,λi y w' n U=>h.rs i y w' (C.trans (λk a=>n k (Or.inl a))) (by omega),O,h.s⟩,λk I c S T=>?_,by omega,λk I c j z=>?_⟩
 ·rw[q0f _ _ (by omega),q0f _ _ (by omega)];exact h.l0
 ·rw[q0f _ _ (by omega),q0f _ _ (by omega)];exact h.l1
 ·rw[q0f _ _ (by omega),q0f _ _ (by omega)];exact h.l2
 ·rw[q0f _ _ (by omega),q0f _ _ (by omega)];exact h.l3
 ·rw[q0f _ _ (by omega),q0i,h.l4,List.length_append,List.length_singleton,List.range_succ,List.map_append];congr 1
  ·refine List.map_congr_left (λr B=>?_);rw[q0f _ _ (by have:=List.mem_range.1 B;omega)]
  simp[q0i]
 ·rw[q0i,h.l5,List.length_append,List.length_singleton,List.range_succ,List.map_append];congr 1
  ·refine List.map_congr_left (λr B=>?_);rw[q6w (List.mem_range.1 B)]
  simp
 ·rw[List.length_append,List.length_singleton]at y;by_cases e:i=l.length
  ·subst e;rw[q0i,y1N];intro j z;refine⟨mb,0,rfl,?_⟩;rw[Nat.zero_add];exact((hmb.block ((n mb (Or.inr rfl)).trans (d mb (Or.inr rfl)))) j _ (q0x _ z)).1
  rw[q0f _ _ e,q6w (by omega)];exact h.st i (by omega) w' (C.trans (λk a=>n k (Or.inl a))) (by omega)
 ·rw[L k (by omega) c T,hW.block k (by omega),Y k I c S]
 by_cases K:j=5
 ·subst K;rw[q0i];intro e;have p:g2=k:=Option.some.inj e;rcases hb2 with x|x
  ·exact c 5 (by omega) (p▸x)
  omega
 rw[q0f _ _ K];by_cases J:j=4
 ·subst J;rw[q0i];intro e;have p:g1=k:=Option.some.inj e;rcases hb with x|x
  ·exact c 4 (by omega) (p▸x)
  omega
 rw[q0f _ _ J];exact c j z
end
end Go.Proofs.YtoaaklhpmhjhkaaGreat
