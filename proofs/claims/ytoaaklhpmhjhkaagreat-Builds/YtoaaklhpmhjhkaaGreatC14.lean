import Derived.Laws.OwnMore
import Derived.Test.YtoaaklhpmhjhkaaGreatC13
set_option maxRecDepth 100000
set_option maxHeartbeats 4000000
set_option linter.all false
namespace Go.Proofs.YtoaaklhpmhjhkaaGreat
open Go.RowKit
open Bm
def writeAt (xs:List Value):Nat->List Value->List Value
 |_,[]=>xs
 |o,v::vs=>writeAt (xs.set o v) (o+1) vs
theorem q4j:∀(vs:List Value) (xs:List Value) (o i:Nat),o+vs.length<=xs.length->(writeAt xs o vs)[i]?=if o<=i/\i<o+vs.length then vs[i-o]? else xs[i]?
 |[],xs,o,i,_=>by rw[writeAt,if_neg (by simp)]
 |v::vs,xs,o,i,h=>by
  simp only[List.length_cons]at h;rw[writeAt,q4j vs (xs.set o v) (o+1) i (by simp;omega)];simp only[List.length_cons];by_cases e:i=o
  ·subst e;rw[if_neg (by omega),if_pos (by omega),List.getElem?_set_self (by omega)];simp
  by_cases e2:o+1<=i/\i<o+1+vs.length
  ·rw[if_pos e2,if_pos (by omega),show i-o=(i-(o+1))+1 by omega];simp
  rw[if_neg e2,if_neg (by omega),List.getElem?_set_ne (λx=>e x.symm)]
variable {a : Act}{ops : Array Oper}{Q : Exit → Act → World → Prop}{rest : List Oper}{B b base cap g n nb size : Nat}{F : Nat → Bool}{bh hs : Nat → Nat → Bool}{op : Oper}{v vb vb' vb2 vh vh' vh2 : Value}{W W' w w' w1 w2 : World}
theorem q5p {e:TypeId}:∀(vs:List Value) (o:Nat) (xs:List Value) (w:World),w.ownsRow base e size (.slice (some ⟨g,0,none⟩) n cap) n xs->(w.setCells g o vs).ownsRow base e size (.slice (some ⟨g,0,none⟩) n cap) n (writeAt xs o vs)
 |[],_,_,_,h=>h
 |v::vs,o,_,_,h=>q5p vs (o+1) _ _ (h.stored o v).1
def mkL (n:Nat) (f:Nat->Nat->Bool):List (Nat->Bool):=(List.range n).map f
theorem q0V (n:Nat) (f:Nat->Nat->Bool):(mkL n f).length=n:=by simp[mkL]
theorem q4G {p:Nat} (f:Nat->Nat->Bool) (h:p<n):(mkL n f)[p]?=some (f p):=by simp[mkL,h]
theorem q8J (n:Nat) (f:Nat->Nat->Bool):mkL (n+1) f=mkL n f++[f n]:=by simp[mkL,List.range_succ]
theorem y0t {f g:Nat->Nat->Bool} (h:∀p q,p<n->q<104->f p q=g p q):flatS (mkL n f)=flatS (mkL n g):=by
 unfold flatS mkL;rw[List.flatMap_map,List.flatMap_map];have:∀p∈List.range n,bl (f p) 104=bl (g p) 104:=λp a=>q0o (λq b=>h p q (by simpa using a) b)
 rw[List.flatMap_def,List.flatMap_def,List.map_congr_left this]
theorem y0u {f g:Nat->Nat->Bool} (h:∀p q,p<n->q<256->f p q=g p q):flatH (mkL n f)=flatH (mkL n g):=by
 unfold flatH mkL;rw[List.flatMap_map,List.flatMap_map];have:∀p∈List.range n,bl (f p) 256=bl (g p) 256:=λp a=>q0o (λq b=>h p q (by simpa using a) b)
 rw[List.flatMap_def,List.flatMap_def,List.map_congr_left this]
theorem OwnS.congr {f g:Nat->Nat->Bool} (h:OwnS base v (mkL n f) w) (e:∀p q,p<n->q<104->f p q=g p q):OwnS base v (mkL n g) w:=by
 unfold OwnS at *;rw[q0V]at *;rw[<-y0t e];exact h
theorem OwnH.congr {f g:Nat->Nat->Bool} (h:OwnH base v (mkL n f) w) (e:∀p q,p<n->q<256->f p q=g p q):OwnH base v (mkL n g) w:=by
 unfold OwnH at *;rw[q0V]at *;rw[<-y0u e];exact h
theorem q7s (l:List (Nat->Bool)):(flatS l).length=l.length*104:=by
 induction l with
 |nil=>rfl
 |cons f l ih=>rw[show flatS (f::l)=bl f 104++flatS l from by simp[flatS],List.length_append,ih,q0c,List.length_cons];omega
theorem OwnS.put {f:Nat->Nat->Bool} (h:OwnS base (.slice (some ⟨g,0,none⟩) n cap) (mkL n f) w) (p o m:Nat) (G:Nat->Bool) (hp:p<n) (hm:o+m<=104):
  OwnS base (.slice (some ⟨g,0,none⟩) n cap) (mkL n (λi=>if i=p then over (f p) o m G else f i)) (w.setCells g (p*104+o) (bl G m)):=by
 unfold OwnS at *;rw[q0V]at *;have d:=q5p (bl G m) (p*104+o) _ _ h;have j:(flatS (mkL n f)).length=n*104:=by rw[q7s,q0V]
 have e:writeAt (flatS (mkL n f)) (p*104+o) (bl G m)=flatS (mkL n (λi=>if i=p then over (f p) o m G else f i)):=by
  refine List.ext_getElem? (λi=>?_);rw[q4j _ _ _ _ (by rw[q0c,j];omega),q0c];rcases Nat.lt_or_ge i (n*104)with hi|hi
  ·have k:i/104<n:=Nat.div_lt_of_lt_mul (by omega);have l:=Nat.mod_lt i (show 0<104 by omega);have q:i/104*104+i%104=i:=by have:=Nat.div_add_mod i 104;omega
   have b:=q2I (mkL n f) (i/104) (i%104) _ (q4G f k) l;have c:=q2I (mkL n (λi=>if i=p then over (f p) o m G else f i)) (i/104) (i%104) _ (q4G _ k) l;rw[q]at b c;rw[b,c];by_cases a:i/104=p
   ·rw[if_pos a];unfold over;by_cases e2:o<=i%104/\i%104<o+m
    ·rw[if_pos (by omega),if_pos e2,q0x _ (by omega)];congr 3;omega
    rw[if_neg (by omega),if_neg e2,a]
   rw[if_neg a,if_neg ?_];intro r;apply a;have s:p<=i/104:=(Nat.le_div_iff_mul_le (by omega)).2 (by omega);have t:i/104<p+1:=Nat.div_lt_of_lt_mul (by omega);omega
  rw[if_neg (by omega),List.getElem?_eq_none (by rw[j];exact hi),List.getElem?_eq_none (by rw[q7s,q0V];exact hi)]
 rw[e]at d;exact d
theorem OwnS.thereAt {f:Nat->Nat->Bool} (h:OwnS base (.slice (some ⟨g,0,none⟩) n cap) (mkL n f) w) (p o m:Nat) (hp:p<n) (hm:o+m<=104):w.there g (p*104+o) m:=λj c=>by
 unfold OwnS at h;rw[q0V]at h;have a:=h.cellAt (p*104+o+j) (by omega);have b:=q2I (mkL n f) p (o+j) _ (q4G f hp) (by omega);rw[show p*104+(o+j)=p*104+o+j by omega]at b;rw[b]at a;exact⟨by rw[a];rfl,h.frozenAt _⟩
theorem OwnS.sub {f:Nat->Nat->Bool} (h:OwnS base (.slice (some ⟨g,0,none⟩) n cap) (mkL n f) w) (p o m:Nat) (hp:p<n) (hm:o+m<=104):w.rangeAt g (p*104+o) (bl (λi=>f p (o+i)) m):=λj v a=>by
 have d:j<m:=by have:=(List.getElem?_eq_some_iff.1 a).1;rw[q0c]at this;exact this
 rw[q0x _ d]at a;cases a;unfold OwnS at h;rw[q0V]at h;have b:=h.cellAt (p*104+o+j) (by omega);have c:=q2I (mkL n f) p (o+j) _ (q4G f hp) (by omega);rw[show p*104+(o+j)=p*104+o+j by omega]at c;rw[c]at b;exact b
structure NetIn (nb base:Nat) (vh vb:Value) (n:Nat) (hs bh:Nat->Nat->Bool) (F:Nat->Bool) (w:World):Prop where
 c:TC nb (vh::vb::bl F 104) w
 h:OwnH base vh (mkL n hs) w
 b:OwnS base vb (mkL n bh) w
 ne:∀k,vh.ownBlock=some k->vb.ownBlock≠some k
theorem NetIn.below (h:NetIn nb base vh vb n hs bh F w) (hW:Below w.heap.size w w'):NetIn nb base vh vb n hs bh F w':=
 ⟨h.c.below hW,h.h.below hW,h.b.below hW,h.ne⟩
structure NF (nb:Nat) (vh vb vh' vb':Value) (w w':World):Prop where
 b:Below nb w w'
 k:∀k,k<w.heap.size->k≠nb->vh.ownBlock≠some k->vb.ownBlock≠some k->w'.heap[k]?=w.heap[k]?
 oh:∀k,vh'.ownBlock=some k->vh.ownBlock=some k\/w.heap.size<=k
 ob:∀k,vb'.ownBlock=some k->vb.ownBlock=some k\/w.heap.size<=k
theorem NF.of (vh vb:Value) {w w':World} (hb:nb<=w.heap.size) (h:Below w.heap.size w w'):NF nb vh vb vh vb w w':=⟨h.mono hb,λk a _ _ _=>h.block k a,λ_ h=>Or.inl h,λ_ h=>Or.inl h⟩
theorem NF.trans {vh1 vb1:Value} (a:NF nb vh vb vh1 vb1 w w1) (b:NF nb vh1 vb1 vh2 vb2 w1 w2):NF nb vh vb vh2 vb2 w w2:=by
 have hs:=a.b.size;refine⟨a.b.trans b.b,λk c d f g=>?_,λk c=>?_,λk c=>?_⟩
 ·rw[b.k k (by omega) d (λe=>?_) (λe=>?_),a.k k c d f g]
  ·rcases a.oh k e with h|h
   ·exact f h
   omega
  rcases a.ob k e with h|h
  ·exact g h
  omega
 ·rcases b.oh k c with h|h
  ·exact a.oh k h
  exact Or.inr (by omega)
 rcases b.ob k c with h|h
 ·exact a.ob k h
 exact Or.inr (by omega)
theorem NetIn.congr {hs' bh':Nat->Nat->Bool} (h:NetIn nb base vh vb n hs bh F w) (e1:∀p q,p<n->q<256->hs p q=hs' p q) (e2:∀p q,p<n->q<104->bh p q=bh' p q):NetIn nb base vh vb n hs' bh' F w:=
 ⟨h.c,h.h.congr e1,h.b.congr e2,h.ne⟩
theorem OwnS.slc {f:Nat->Nat->Bool} (h:OwnS base v (mkL n f) w) (hn:0<n):∃g cap,v=.slice (some ⟨g,0,none⟩) n cap:=by
 obtain⟨ad,cap,e,a⟩:=h.at_;rw[q0V]at e;obtain⟨g,e2,_⟩:=a 0 (f 0) (q4G f hn);subst e2;exact⟨g,cap,e⟩
structure LK (nb base:Nat) (vh vb:Value) (n:Nat) (hs bh:Nat->Nat->Bool) (F L G:Nat->Bool) (w W:World):Prop where
 n:NetIn nb base vh vb n hs bh F W
 l:TC w.heap.size (bl L 96) W
 g:TC (w.heap.size+1) (bl G 96) W
 f:NF nb vh vb vh vb w W
def lnk (bh:Nat->Nat->Bool) (L G:Nat->Bool) (m p q:Nat):Bool:=bh p q || (decide (p<m)&&L p&&decide (q<96)&&G q)
theorem q6p (nb base:Nat) (vh vb:Value) (n:Nat) (hs bh:Nat->Nat->Bool) (F L G:Nat->Bool) (w:World) (hN:NetIn nb base vh vb n hs bh F w) (hnb:nb<base) (hn:n<=96):
  Calls Tryz.prog 221 #[.pointer (some ⟨nb,0,none⟩),.agg (bl L 96).toArray,.agg (bl G 96).toArray] w λe w'=>e=.returned (.tuple #[])/\NetIn nb base vh vb n hs (lnk bh L G n) F w'/\NF nb vh vb vh vb w w':=by
 have ae:=hN.c.lt;obtain⟨W,N⟩:=nam ((w.alloc (.cells (bl L 96).toArray 132)).alloc (.cells (bl G 96).toArray 132));have S0:LK nb base vh vb n hs (lnk bh L G 0) F L G w W:=by
  have M:(w.alloc (.cells (bl L 96).toArray 132)).heap.size=w.heap.size+1:=by simp
  have T1:=TC.boxed w (bl L 96) 132;have T2:=TC.boxed (w.alloc (.cells (bl L 96).toArray 132)) (bl G 96) 132;rw[M,<-N]at T2;have x1:=box_bel w (.cells (bl L 96).toArray 132);have x2:=box_bel (w.alloc (.cells (bl L 96).toArray 132)) (.cells (bl G 96).toArray 132);rw[<-N]at x2;have B:Below w.heap.size w W:=x1.trans (x2.mono (by omega));exact⟨(hN.below B).congr (λ_ _ _ _=>rfl) (λp q _ _=>by simp[lnk]),T1.block (x2.block _ (by omega)),T2,NF.of vh vb (by omega) B⟩
 have P:Hid (∀k,vb.ownBlock=some k->k<w.heap.size):=λk y=>(hN.b.blk k y).2
 clear hN;go_enter Tryz.func221,Tryz.ntmps221;go_wp2_with fail;rw[<-N];clear N
 go_loopw [6] (λx w'=>∃p:Nat,p<=n/\x=.int .i64 p/\LK nb base vh vb n hs (lnk bh L G p) F L G w w') (λx _=>n-(intOf x).toNat)
 ·exact⟨0,by omega,rfl,S0⟩
 clear S0;obtain⟨p,hp,rfl,S⟩:=hrel;have c1:=(S.n.c 1 _ rfl).1;by_cases s:p<n
 ·obtain⟨g,cap,rfl⟩:=S.n.b.slc (by omega);have aa:(p:Int)<n:=by omega
  have ab:(p:Int)<96:=by omega
  have cl:=(S.l p _ (q0x _ (by omega))).1;have I:∀i q,lnk bh L G (p+1) i q=(lnk bh L G p i q || (decide (i=p)&&L p&&decide (q<96)&&G q)):=λi q=>by
   unfold lnk;by_cases e:i=p
   ·subst e;simp
   by_cases e2:i<p
   ·simp[e,e2,show i<p+1 by omega]
   simp[e,e2,show ¬i<p+1 by omega]
  have m:=hyd I;clear I;obtain⟨x,Z⟩:=nam (L p);rw[<-Z]at cl m;have Hx:=hyd Z;clear Z;cases x
  ·have S2:LK nb base vh (.slice (some ⟨g,0,none⟩) n cap) n hs (lnk bh L G (p+1)) F L G w wr:=⟨S.n.congr (λ_ _ _ _=>rfl) (λi q _ _=>by rw[m.out];simp),S.l,S.g,S.f⟩;clear S;go_wp2_with fail;go_roundw
   ·exact⟨p+1,by omega,by go_num,S2⟩
   simp[intOf];omega
  have u:=S.n.b.sub p 0 96 s (by omega);simp only[Nat.zero_add,Nat.add_zero]at u;have H:=S.g.range;have A:Hid (LK nb base vh (.slice (some ⟨g,0,none⟩) n cap) n hs (lnk bh L G p) F L G w wr):=S;clear S;go_wp2_with fail;have HC:Hid (Calls Tryz.prog 174 #[.agg (bl (λi=>lnk bh L G p p i) 96).toArray,.agg (bl G 96).toArray] wr.drew λe w'=>e=.returned (.agg (bl (λq=>lnk bh L G p p q || G q) 96).toArray)/\Below wr.drew.heap.size wr.drew w'):=q0Z _ _ _;have hS0:wr.drew.cell? ⟨nb,1,none⟩=some (.slice (some ⟨g,0,none⟩) n cap)/\wr.drew.rangeAt (w.heap.size+1) 0 (bl G 96):=⟨c1,H⟩;have Y:wr.drew.rangeAt g (p*104) (bl (λi=>lnk bh L G p p i) 96):=u;refine wp_region_held_drew (S:=λw'=>w'.cell? ⟨nb,1,none⟩=some (.slice (some ⟨g,0,none⟩) n cap)/\w'.rangeAt (w.heap.size+1) 0 (bl G 96)) (by kernel_rfl) hS0 (λhHeld=>?_);clear u H c1 cl;refine wpAnyH_take (i:=0) (oi:=?o0) (v:=?v0) ?hi0 ?hs0 ?hf0 ?hr0 ?hQ0 (Or.inl ⟨?hw0,?hy0⟩) ?hS0 ?rest0
  case hi0=>simp only[List.getElem?_toArray,List.getElem?_cons_zero];rfl
  case hs0=>kernel_rfl
  case hf0=>kernel_rfl
  case hr0=>kernel_rfl
  case hQ0=>exact λ_ _ _ h=>h
  case hS0=>assumption
  case hw0=>rfl
  case hy0=>intro w' a;(try dsimp only at a);go_simp;first|done|with_reducible rfl
  (try simp only[psm])
  refine wpAnyH_take (i:=1) (by simp only[gel];rfl) (by kernel_rfl) (by kernel_rfl) (by kernel_rfl) (by exact λ_ _ _ h=>h) (Or.inl ⟨by rfl,by intro w' a;(try dsimp only at a);go_simp;first|done|with_reducible rfl⟩) (by assumption) ?_
  (try simp only[psm])
  refine wpAnyH_take (i:=2) (by simp only[gel];rfl) (by kernel_rfl) (by kernel_rfl) (by kernel_rfl) (by exact λ_ _ _ h=>h) (Or.inl ⟨by rfl,by intro w' a;(try dsimp only at a);go_simp;first|done|with_reducible rfl⟩) (by assumption) ?_
  (try simp only[psm])
  refine wpAnyH_take (i:=3) (by simp only[gel];rfl) (by kernel_rfl) (by kernel_rfl) (by kernel_rfl) (by exact λ_ _ _ h=>h) (Or.inl ⟨by rfl,by intro w' a;(try dsimp only at a);go_simp;first|done|with_reducible rfl⟩) (by assumption) ?_
  (try simp only[psm])
  refine wpAnyH_take (i:=4) (by simp only[gel];rfl) (by kernel_rfl) (by kernel_rfl) (by kernel_rfl) (by exact λ_ _ _ h=>h) (Or.inl ⟨by rfl,by intro w' a;(try dsimp only at a);go_simp;first|done|with_reducible rfl⟩) (by assumption) ?_
  (try simp only[psm])
  refine wpAnyH_take (i:=5) (by simp only[gel];rfl) (by kernel_rfl) (by kernel_rfl) (by kernel_rfl) (by exact λ_ _ _ h=>h) (Or.inl ⟨by rfl,by intro w' a;(try dsimp only at a);go_simp;first|done|with_reducible rfl⟩) (by assumption) ?_
  (try simp only[psm])
  refine wpAnyH_take (i:=6) (by simp only[gel];rfl) (by kernel_rfl) (by kernel_rfl) (by kernel_rfl) (by exact λ_ _ _ h=>h) (Or.inl ⟨by rfl,by intro w' a;(try dsimp only at a);go_simp;first|done|with_reducible rfl⟩) (by assumption) ?_
  (try simp only[psm])
  refine wpAnyH_take (i:=7) (by simp only[gel];rfl) (by kernel_rfl) (by kernel_rfl) (by kernel_rfl) (by exact λ_ _ _ h=>h) (Or.inl ⟨by rfl,by intro w' a;(try dsimp only at a);go_simp;first|done|with_reducible rfl⟩) (by assumption) ?_
  (try simp only[psm])
  refine wpAnyH_take (i:=8) (by simp only[gel];rfl) (by kernel_rfl) (by kernel_rfl) (by kernel_rfl) (by exact λ_ _ _ h=>h) (Or.inl ⟨by rfl,by intro w' a;(try dsimp only at a);go_simp;first|done|with_reducible rfl⟩) (by assumption) ?_
  (try simp only[psm])
  refine wpAnyH_take (i:=9) (by simp only[gel];rfl) (by kernel_rfl) (by kernel_rfl) (by kernel_rfl) (by exact λ_ _ _ h=>h) (Or.inl ⟨by rfl,by intro w' a;(try dsimp only at a);go_simp;first|done|with_reducible rfl⟩) (by assumption) ?_
  (try simp only[psm])
  refine wpAnyH_take (i:=10) (by simp only[gel];rfl) (by kernel_rfl) (by kernel_rfl) (by kernel_rfl) (by exact λ_ _ _ h=>h) (Or.inl ⟨by rfl,by intro w' a;(try dsimp only at a);go_simp;first|done|with_reducible rfl⟩) (by assumption) ?_
  (try simp only[psm])
  refine wpAnyH_take (i:=11) (by simp only[gel];rfl) (by kernel_rfl) (by kernel_rfl) (by kernel_rfl) (by exact λ_ _ _ h=>h) (Or.inl ⟨by rfl,by intro w' a;(try dsimp only at a);go_simp;first|done|with_reducible rfl⟩) (by assumption) ?_
  (try simp only[psm])
  refine wpAnyH_take (i:=13) (oi:=?o13) (v:=.agg (bl G 96).toArray) ?hi13 ?hs13 ?hf13 ?hr13 ?hQ13 (Or.inl ⟨?hw13,?hy13⟩) ?hS13 ?rest13
  case hi13=>simp only[gel];rfl
  case hs13=>kernel_rfl
  case hf13=>kernel_rfl
  case hr13=>kernel_rfl
  case hQ13=>exact λ_ _ _ h=>h
  case hS13=>assumption
  case hw13=>rfl
  case hy13=>exact λw' a=>q0O 132 _ rfl (w.heap.size+1) 0 rfl (bl G 96) _ a.2 Tryz.underlying132 rfl (by rw[q0c];exact q0g)
  (try simp only[psm])
  refine wpAnyH_ready (rs:=[12]) (by kernel_rfl) (by simp) ?_;refine AllReadyH.cons (o:=?o12) ?hi12 (λK r=>?_) AllReadyH.nil
  case hi12=>simp only[gel];rfl
  rw[if_pos (by rfl)];unfold Oper.wp;rw[q0O 132 _ rfl g (p*104) rfl (bl (λi=>lnk bh L G p p i) 96) _ Y Tryz.underlying132 rfl (by rw[q0c];exact q0g)];refine r.out _ _ hHeld (λhHeld=>?_);clear r K
  (try simp only[psm])
  refine wpAnyH_ready (rs:=[14]) (by kernel_rfl) (by simp) ?_;refine AllReadyH.cons (o:=?o14) ?hi14 (λK r=>?_) AllReadyH.nil
  case hi14=>simp only[gel];rfl
  go_simp;refine Calls.mono HC.out ?_;rintro e w2 ⟨rfl,E⟩;have j:Below wr.heap.size wr w2:=(Below.refl _ _).drew.trans E;have S1:=A.out;have S2:LK nb base vh (.slice (some ⟨g,0,none⟩) n cap) n hs (lnk bh L G p) F L G w w2:=
   ⟨S1.n.below j,S1.l.block (j.block _ S1.l.ltB),S1.g.block (j.block _ S1.g.ltB),S1.f.trans (NF.of _ _ (by have:=S1.n.c.lt;omega) j)⟩
  obtain⟨Q,C⟩:=nam (bl (λq=>lnk bh L G p p q || G q) 96);have D:Q.length=96:=by rw[C];exact q0c _ _
  have J:=S2.n.b.thereAt p 0 96 s (by omega);have d:=q0e g Q (p*104) w2;have X:=S2.n.b.blk g rfl;have t:=S2.n.ne;have R:LK nb base vh (.slice (some ⟨g,0,none⟩) n cap) n hs (lnk bh L G (p+1)) F L G w (w2.setCells g (p*104) Q):=by
   have M:=S2.n.b.put p 0 96 (λq=>lnk bh L G p p q || G q) s (by omega);rw[<-C,Nat.add_zero]at M;have ac:=P.out g rfl;refine⟨⟨S2.n.c.block (d.block _ S2.n.c.lt (λe=>by have:=Option.some.inj e;omega)),S2.n.h.keep (λk y=>d.block k (S2.n.h.blk k y).2 (λe=>by have:=Option.some.inj e;subst this;exact t k y rfl)),M.congr (λi q _ hq=>?_),t⟩,S2.l.block (d.block _ S2.l.ltB (λe=>by have:=Option.some.inj e;omega)),S2.g.block (d.block _ S2.g.ltB (λe=>by have:=Option.some.inj e;omega)),S2.f.trans ⟨(Below.refl _ _).grown d (by have:=S2.n.c.lt;omega) (λq hq=>by cases hq;omega),λk y _ _ h3=>d.block k y (λe=>h3 e.symm),λ_ h=>Or.inl h,λ_ h=>Or.inl h⟩⟩;rw[m.out];by_cases e:i=p
   ·subst e;simp only[if_true,decide_true,Bool.true_and];unfold over;by_cases e2:q<96
    ·rw[if_pos (by omega)];simp[e2]
    rw[if_neg (by omega)];simp[e2]
   simp[e]
  have O:Hid (Q.toArray.all (·.oneCell')=true):=by show _=true;rw[C];exact q0w _ _
  have z:=hyd D;have U:w2.cell? ⟨nb,1,none⟩=some (.slice (some ⟨g,0,none⟩) n cap)/\w2.rangeAt (w.heap.size+1) 0 (bl G 96):=⟨(S2.n.c 1 _ rfl).1,S2.g.range⟩;have V:(w2.setCells g (p*104) Q).cell? ⟨nb,1,none⟩=some (.slice (some ⟨g,0,none⟩) n cap)/\(w2.setCells g (p*104) Q).rangeAt (w.heap.size+1) 0 (bl G 96):=⟨(R.n.c 1 _ rfl).1,R.g.range⟩;rw[<-C];rw[Nat.add_zero]at J;clear A HC E S1 S2 C D d m j t X;refine r.out _ _ U (λhHeld=>?_);clear r K
  (try simp only[psm])
  refine wpAnyH_take (i:=15) (by simp only[gel];rfl) (by kernel_rfl) (by kernel_rfl) (by kernel_rfl) (by exact λ_ _ _ h=>h) (Or.inl ⟨by rfl,by intro w' a;(try dsimp only at a);go_simp;first|done|with_reducible rfl⟩) (by assumption) ?_
  (try simp only[psm])
  refine wpAnyH_take (i:=16) (by simp only[gel];rfl) (by kernel_rfl) (by kernel_rfl) (by kernel_rfl) (by exact λ_ _ _ h=>h) (Or.inl ⟨by rfl,by intro w' a;(try dsimp only at a);go_simp;first|done|with_reducible rfl⟩) (by assumption) ?_
  (try simp only[psm])
  refine wpAnyH_ready (rs:=[17]) (by kernel_rfl) (by simp) ?_;refine AllReadyH.cons (o:=?o17) ?hi17 (λK r=>?_) AllReadyH.nil
  case hi17=>simp only[gel];rfl
  rw[if_pos (by rfl)];refine wp_store_mid 132 _ _ rfl g (p*104) Q.toArray rfl rfl (by simpa[z.out]using J) (by simpa[z.out]using q0g) O.out ?_;rw[List.toList_toArray];refine r.out _ _ V (λhHeld=>?_);clear r K;refine wpAnyH_done (by kernel_rfl) ?_ _;go_wp2_with fail;go_roundw
  ·exact⟨p+1,by omega,by go_num,R⟩
  simp[intOf];omega
 have⟨hge,hpn⟩:¬(p:Int)<n/\p=n:=by omega
 subst hpn;obtain⟨ad,cap,T,_⟩:=S.n.b.at_;rw[q0V]at T;rw[T]at c1;have SN:=S.n;have SF:=S.f;clear S T;go_wp2_with fail;go_end0;exact⟨rfl,SN,SF⟩
theorem q4P (place:Nat->Option (Nat × Nat)) (Z:Array Value) (i off:Nat) (v:Value) (cs:List Value) (rest:List (Nat × Value)) (hp:place i=some (off,cs.length)) (hv:v.cells=cs.toArray) (hZ:off+cs.length<=Z.size):
  ∃Z',Instr.fill place Z ((i,v)::rest)=Instr.fill place Z' rest/\Z'.size=Z.size/\∀k,Z'[k]?=if off<=k/\k<off+cs.length then cs[k-off]? else Z[k]?:=by
 obtain⟨a,b⟩:=setAll off cs 0 Z (by omega);refine⟨_,?_,a,λk=>?_⟩
 ·rw[Instr.fill];simp only[hp,hv];rw[if_neg (by simp;omega)];have e:(cs.toArray).zipIdx.foldl (λcs (x:Value × Nat)=>cs.setIfInBounds (off+x.2) x.1) Z=(cs.zipIdx 0).foldl (λcs (x:Value × Nat)=>cs.setIfInBounds (off+x.2) x.1) Z:=by
   rw[<-Array.foldl_toList,Array.toList_zipIdx]
  rw[e]
 rw[b k,Nat.add_zero]
def rn3 (b:Bool) (f g:Nat->Bool):Nat->Bool:=λi=>if i=0 then b else if i<97 then f (i-1) else g (i-97)
def plR (i:Nat):Option (Nat × Nat):=#[(0,1),(1,96),(97,96)][i]?
theorem fill3 (b:Bool) (f g:Nat->Bool) (Z:Array Value) (hZ:Z.size=193):Instr.fill plR Z [(0,.bool b),(1,.agg (bl f 96).toArray),(2,.agg (bl g 96).toArray)]=some (bl (rn3 b f g) 193).toArray:=by
 obtain⟨j,l,e,m⟩:=q4P plR Z 0 0 (.bool b) [.bool b] [(1,.agg (bl f 96).toArray),(2,.agg (bl g 96).toArray)] rfl rfl (by rw[hZ];simp);obtain⟨k,n,o,p⟩:=q4P plR j 1 1 (.agg (bl f 96).toArray) (bl f 96) [(2,.agg (bl g 96).toArray)] (by rw[q0c];rfl) rfl (by rw[e,hZ,q0c];omega);obtain⟨q,c1,c2,c3⟩:=q4P plR k 2 97 (.agg (bl g 96).toArray) (bl g 96) [] (by rw[q0c];rfl) rfl (by rw[o,e,hZ,q0c];omega);rw[l,n,c1,Instr.fill];congr 1;refine Array.ext_getElem? (λi=>?_);rw[c3,p,m];simp only[q0c,List.length_singleton];rcases Nat.lt_or_ge i 193 with c|c
 ·have d:(bl (rn3 b f g) 193).toArray[i]?=(bl (rn3 b f g) 193)[i]?:=by simp
  rw[d,q0x _ c];unfold rn3;by_cases a:i=0
  ·subst a;simp
  by_cases h:i<97
  ·rw[if_neg (by omega),if_pos (by omega),if_neg a,if_pos h,q0x _ (by omega)]
  rw[if_pos (by omega),if_neg a,if_neg h,q0x _ (by omega)]
 have d:(bl (rn3 b f g) 193).toArray[i]?=none:=by rw[Array.getElem?_eq_none (by simp[q0c];exact c)]
 rw[d,if_neg (by omega),if_neg (by omega),if_neg (by omega)];simp;omega
theorem q9f (b:Bool) (f g:Nat->Bool) (w:World):(Instr.build 247 #[(0,.bool b),(1,.agg (bl f 96).toArray),(2,.agg (bl g 96).toArray)]).run Tryz.prog w=.ok (.agg (bl (rn3 b f g) 193).toArray) w:=by
 have d:(Instr.build 247 #[(0,.bool b),(1,.agg (bl f 96).toArray),(2,.agg (bl g 96).toArray)]).run Tryz.prog w=(match Instr.fill plR (bl (λ_=>false) 193).toArray [(0,.bool b),(1,.agg (bl f 96).toArray),(2,.agg (bl g 96).toArray)]with
  |some cells=>(pure (.agg cells):Go.Sem Value)
  | none => stuck "build: no such field, or a part of the wrong size").run Tryz.prog w := by kernel_rfl
 have c:=fill3 b f g (bl (λ_=>false) 193).toArray (by simp[q0c]);rw[d,c];rfl
theorem q1D (hgd:op.guard=none) (x y z:Operand) (ho:op.op=.build 247 #[(0,x),(1,y),(2,z)]) (b:Bool) (f g:Nat->Bool) (hx:a.eval x=.bool b) (hy:a.eval y=.agg (bl f 96).toArray) (hz:a.eval z=.agg (bl g 96).toArray)
  (h:wpList Tryz.prog ops Q rest (a.put op.dst (.agg (bl (rn3 b f g) 193).toArray)) w):wpList Tryz.prog ops Q (op::rest) a w:=
 wpList_plain hgd λ_ c=>by
  unfold Oper.wp execOp;have d:=q9f b f g w;have e:(#[((0:Nat),x),(1,y),(2,z)].map λ(p:Nat × Operand)=>(p.1,a.eval p.2))=#[(0,.bool b),(1,.agg (bl f 96).toArray),(2,.agg (bl g 96).toArray)]:=by simp[hx,hy,hz]
  simp only[ho,Sem.run_bind,e,d,Result.andThen_ok,Sem.run_pure];exact c _ _ h
theorem y3b {o:Nat}{f:Nat->Bool}{t:TypeId}{d:TypeDesc} (h:w.rangeAt b o (bl f n)) (hu:Tryz.prog.underlying t=some d) (hd:d.isRow=true) (hi:(Tryz.prog.info? t).map (·.size)=some n):(loadVar t ⟨b,o,none⟩).run Tryz.prog w=.ok (.agg (bl f n).toArray) w:=
 run_loadVar_mid (P:=Tryz.prog) w b o t (bl f n) _ h hu hd (by rw[q0c];exact hi)
theorem q5U {g:Nat->Bool} (h:TC b (bl g 193) w) (f:Nat->Bool):(loadVar 247 ⟨b,0,none⟩).run Tryz.prog (w.setCells b 0 (bl f 193))=.ok (.agg (bl f 193).toArray) (w.setCells b 0 (bl f 193)):=
 y3b (World.rangeAt_setCells_same w b 0 (bl f 193) (by rw[q0c];exact q0I h)) Tryz.underlying247 rfl q0h
theorem NetIn.mine (h:NetIn nb base vh vb n hs bh F w) {k:Nat} (hg:w.grownBy w' (some k)) (h1:k≠nb) (h2:vh.ownBlock≠some k) (h3:vb.ownBlock≠some k):NetIn nb base vh vb n hs bh F w':=
 ⟨h.c.block (hg.block _ h.c.lt (λe=>h1 (Option.some.inj e).symm)),h.h.keep (λq a=>hg.block q (h.h.blk q a).2 (λe=>h2 (by rw[a,e]))),h.b.keep (λq a=>hg.block q (h.b.blk q a).2 (λe=>h3 (by rw[a,e]))),h.ne⟩
theorem NF.mine (h:NF nb vh vb vh' vb' w w1) {k:Nat} (hg:w1.grownBy w2 (some k)) (hk:w.heap.size<=k) (hn:nb<w.heap.size):NF nb vh vb vh' vb' w w2:=
 ⟨h.b.grown hg (by have:=h.b.size;omega) (λq g=>by cases g;omega),λq a c d f=>by rw[hg.block q (by have:=h.b.size;omega) (λe=>by have:=Option.some.inj e;omega)];exact h.k q a c d f,h.oh,h.ob⟩
structure JN (nb base:Nat) (vh vb:Value) (n:Nat) (hs bh:Nat->Nat->Bool) (F r s c:Nat->Bool) (w W:World) (A B:Nat):Prop where
 n:NetIn nb base vh vb n hs bh F W
 a:TC A (bl r 193) W
 b:TC (A+1) (bl s 193) W
 z:TC (A+2) (bl (fun _=>false) 193) W
 c:TC B (bl c 193) W
 f:NF nb vh vb vh vb w W
 g:A=w.heap.size/\nb<A/\A+3<=B/\(∀k,vh.ownBlock=some k->k<A)/\(∀k,vb.ownBlock=some k->k<A)
theorem JN.below {r s c:Nat->Bool}{A:Nat} (h:JN nb base vh vb n hs bh F r s c w W A B) (hW:Below W.heap.size W W'):JN nb base vh vb n hs bh F r s c w W' A B:=
 ⟨h.n.below hW,h.a.block (hW.block _ h.a.ltB),h.b.block (hW.block _ h.b.ltB),h.z.block (hW.block _ h.z.ltB),h.c.block (hW.block _ h.c.ltB),h.f.trans (NF.of vh vb (by have:=h.n.c.lt;omega) hW),h.g⟩
theorem JN.put {r s c:Nat->Bool}{A:Nat} (h:JN nb base vh vb n hs bh F r s c w W A B) (o m:Nat) (G:Nat->Bool) (hm:o+m<=193):JN nb base vh vb n hs bh F r s (over c o m G) w (W.setCells B o (bl G m)) A B:=by
 have d:=q0e B (bl G m) o W;obtain⟨k,l,p,i,j⟩:=h.g;exact⟨h.n.mine d (by omega) (λe=>by have:=i _ e;omega) (λe=>by have:=j _ e;omega),h.a.block (d.block _ h.a.ltB (λe=>by have:=Option.some.inj e;omega)),h.b.block (d.block _ h.b.ltB (λe=>by have:=Option.some.inj e;omega)),h.z.block (d.block _ h.z.ltB (λe=>by have:=Option.some.inj e;omega)),h.c.setPart o m G hm,h.f.mine d (by omega) (by omega),h.g⟩
def jn (r s:Nat->Bool):Nat->Bool:=λi=>if i=0 then r 0&&s 0 else if i<97 then r i || (r 0&&s i) else s i || (s 0&&r i)
theorem q3N (nb base:Nat) (vh vb:Value) (n:Nat) (hs bh:Nat->Nat->Bool) (F r s:Nat->Bool) (w:World) (hN:NetIn nb base vh vb n hs bh F w) (hnb:nb<base) (hn:n<=96):
  Calls Tryz.prog 211 #[.pointer (some ⟨nb,0,none⟩),.agg (bl r 193).toArray,.agg (bl s 193).toArray] w λe w'=>e=.returned (.agg (bl (jn r s) 193).toArray)/\NetIn nb base vh vb n hs (lnk bh (λp=>r (97+p)) (λq=>s (1+q)) n) F w'/\NF nb vh vb vh vb w w':=by
 have hz:=q1C;have aQ:=hN.c.lt;have aG:Hid (∀k,vh.ownBlock=some k->k<w.heap.size):=λk hk=>(hN.h.blk k hk).2
 have aF:Hid (∀k,vb.ownBlock=some k->k<w.heap.size):=λk hk=>(hN.b.blk k hk).2
 obtain⟨A,hA⟩:=nam w.heap.size;obtain⟨W1,aj⟩:=nam (w.alloc (.cells (bl r 193).toArray 247));obtain⟨W2,au⟩:=nam (W1.alloc (.cells (bl s 193).toArray 247));obtain⟨W3,av⟩:=nam (W2.alloc (.cells (bl (λ_=>false) 193).toArray 247));have z1:W1.heap.size=A+1:=by rw[aj,hA];simp
 have z2:W2.heap.size=A+2:=by rw[au];simp[z1]
 have z3:W3.heap.size=A+3:=by rw[av];simp[z2]
 have S0:NetIn nb base vh vb n hs bh F W3/\TC A (bl r 193) W3/\TC (A+1) (bl s 193) W3/\TC (A+2) (bl (λ_=>false) 193) W3/\NF nb vh vb vh vb w W3:=by
  have T1:=TC.boxed w (bl r 193) 247;have T2:=TC.boxed W1 (bl s 193) 247;have T3:=TC.boxed W2 (bl (λ_=>false) 193) 247;have x1:=box_bel w (.cells (bl r 193).toArray 247);have x2:=box_bel W1 (.cells (bl s 193).toArray 247);have x3:=box_bel W2 (.cells (bl (λ_=>false) 193).toArray 247);rw[<-aj,<-hA]at T1;rw[<-aj]at x1;rw[<-au,z1]at T2 x2;rw[<-av,z2]at T3 x3;have B:Below w.heap.size w W3:=(x1.trans (x2.mono (by omega))).trans (x3.mono (by omega));exact⟨hN.below B,(T1.block (x2.block _ (by omega))).block (x3.block _ (by omega)),T2.block (x3.block _ (by omega)),T3,NF.of vh vb (by omega) B⟩
 obtain⟨aJ,aA,aB,aK,aI⟩:=S0;have r1:=aA.sub 97 96 (by omega);have r2:=aB.sub 1 96 (by omega);have HA:=hyd hA;have HW:Hid (W3=((w.alloc (.cells (bl r 193).toArray 247)).alloc (.cells (bl s 193).toArray 247)).alloc (.cells (bl (λ_=>false) 193).toArray 247)):=by show _=_;rw[av,au,aj]
 have aH:=hyd z3;rw[hA]at r1 r2;clear hN aj au av z1 z2 z3 hA;go_enter Tryz.func211,Tryz.ntmps211;go_wp2_with (first|(with_reducible refine gld 132 ?_;rw[<-HW.out];refine wpList_load_mid rfl 132 _ rfl w.heap.size 97 rfl _ _ r1 Tryz.underlying132 rfl (by rw[q0c];exact q0g) ?_)|(with_reducible refine gld 132 ?_;refine wpList_load_mid rfl 132 _ rfl (w.heap.size+1) 1 rfl _ _ r2 Tryz.underlying132 rfl (by rw[q0c];exact q0g) ?_));refine Calls.mono (q6p nb base vh vb n hs bh F _ _ W3 aJ hnb hn) ?_;rintro e w1 ⟨rfl,N1,F1⟩;rw[<-HA.out];have ac:=aG.out;have ab:=aF.out;have aN:=HA.out;have aO:=F1.b.size;have aP:=aH.out;have kp:∀k,A<=k->k<A+3->w1.heap[k]?=W3.heap[k]?:=λk h1 Q=>F1.k k (by omega) (by omega) (λe=>by have:=ac k e;omega) (λe=>by have:=ab k e;omega)
 have T1:=aA.block (kp A (by omega) (by omega));have T2:=aB.block (kp (A+1) (by omega) (by omega));have T3:=aK.block (kp (A+2) (by omega) (by omega));have F2:=aI.trans F1;obtain⟨bh2,aE⟩:=nam (lnk bh (λp=>r (97+p)) (λq=>s (1+q)) n);rw[<-aE]at N1;have ar:=hyd aE;clear aJ aA aB aK aI F1 kp r1 r2 ac ab aE HW aH;have ca:=(T1 0 _ (q0x r (by omega))).1;have cb:=(T2 0 _ (q0x s (by omega))).1;have q1:=T1.sub 1 96 (by omega);have q2:=T2.sub 97 96 (by omega);obtain⟨B,hB⟩:=nam w1.heap.size;obtain⟨W4,aD⟩:=nam (w1.alloc (.cells (bl (λ_=>false) 193).toArray 247));have x4:=box_bel w1 (.cells (bl (λ_=>false) 193).toArray 247);have T4:=TC.boxed w1 (bl (λ_=>false) 193) 247;rw[<-aD]at x4 T4;rw[<-hB]at T4;have N4:=N1.below x4;have F4:=F2.trans (NF.of vh vb (by omega) x4);have U1:=T1.block (x4.block _ T1.ltB);have U2:=T2.block (x4.block _ T2.ltB);have U3:=T3.block (x4.block _ T3.ltB);obtain⟨x,hx⟩:=nam (r 0);obtain⟨y,hy⟩:=nam (s 0);rw[<-hx]at ca;rw[<-hy]at cb;have Hx:=hyd hx;have Hy:=hyd hy;obtain⟨L,hL⟩:=nam (bl (rn3 (x&&y) (λi=>r (1+i)) (λi=>s (97+i))) 193);have HL:=hyd hL;have K:Hid (L.length=193):=by show _=_;rw[hL];exact q0c _ _
 have ao:Hid (L.toArray.all (·.oneCell')=true):=by show _=true;rw[hL];exact q0w _ _
 have ax:=q0I T4;obtain⟨W5,aw⟩:=nam (W4.setCells B 0 L);have Y:=q0e B L 0 W4;rw[<-aw]at Y;have ac:=aG.out;have ab:=aF.out;have T5:TC B (bl (rn3 (x&&y) (λi=>r (1+i)) (λi=>s (97+i))) 193) W5:=by
  have:=T4.setPart 0 193 (rn3 (x&&y) (λi=>r (1+i)) (λi=>s (97+i))) (by omega);rw[<-hL,<-aw,q0o (g:=rn3 (x&&y) (λi=>r (1+i)) (λi=>s (97+i))) (λi hi=>by unfold over;rw[if_pos (by omega)];rfl)]at this;exact this
 have aM:A+3<=B:=by omega
 have N5:=N4.mine Y (by omega) (λe=>by have:=ac _ e;omega) (λe=>by have:=ab _ e;omega);have F5:=F4.mine Y (by omega) (by omega);have V1:=U1.block (Y.block _ U1.ltB (λe=>by have:=Option.some.inj e;omega));have V2:=U2.block (Y.block _ U2.ltB (λe=>by have:=Option.some.inj e;omega));have V3:=U3.block (Y.block _ U3.ltB (λe=>by have:=Option.some.inj e;omega));have u:JN nb base vh vb n hs bh2 F r s (rn3 (x&&y) (λi=>r (1+i)) (λi=>s (97+i))) w W5 A B:=⟨N5,V1,V2,V3,T5,F5,by omega,by omega,aM,λk hk=>by have:=ac k hk;omega,λk hk=>by have:=ab k hk;omega⟩;have aq:=hyd aw;have ap:=hyd aD;have HB:=hyd hB;clear hx hy hL aw Y aD x4 N1 F2 T1 T2 T3 T4 T5 U1 U2 U3 N4 F4 hB N5 F5 V1 V2 V3 ac ab aN aO aP;cases x
 ·cases y
  ·have T:=(u.a 0 _ (q0x r (by omega))).1;have U:=(u.b 0 _ (q0x s (by omega))).1;rw[<-Hx.out]at T;rw[<-Hy.out]at U;have t:=u.c;obtain⟨M,D⟩:=nam (bl (rn3 (false&&false) (λi=>r (1+i)) (λi=>s (97+i))) 193);rw[<-D]at t;have j:M.length=193:=by rw[D];exact q0c _ _
   have rM:=t.range;have HM:Hid (M=bl (jn r s) 193):=by
    show _=_;rw[D];refine q0o (λi hi=>?_);have e1:=Hx.out;have e2:=Hy.out;unfold jn;rw[<-e1,<-e2];simp only[rn3];by_cases V:i=0
    ·subst V;simp
    by_cases h1:i<97
    ·have Q:1+(i-1)=i:=by omega
     simp[V,h1,Q,show ¬97<=i by omega]
    have Q:97+(i-97)=i:=by omega
    simp[V,h1,Q]
   have tz:=q0I u.z;have m:=q0e (A+2) M 0 W5;have E:=World.rangeAt_setCells_same W5 (A+2) 0 M (by rw[j];exact tz);have d:=run_loadVar_mid (P:=Tryz.prog) (W5.setCells (A+2) 0 M) (A+2) 0 247 M _ E Tryz.underlying247 rfl (by rw[j];exact q0h);obtain⟨g1,g2,g3,g4,g5⟩:=u.g;have NX:=u.n.mine m (by omega) (λe=>by have:=g4 _ e;omega) (λe=>by have:=g5 _ e;omega);have FX:=u.f.mine m (by omega) (by omega);obtain⟨WX,o⟩:=nam (W5.setCells (A+2) 0 M);rw[<-o]at d NX FX;have S:=hyd o;have C:=hyd d;have l:=hyd j;have R:Hid (M.toArray.all (·.oneCell')=true):=by show _=true;rw[D];exact q0w _ _
   clear D j m E d o t g1 g2 g3 g4 g5 u;go_wp2_with (first|(with_reducible refine gld 132 ?_;refine wpList_load_mid rfl 132 _ rfl A 1 rfl _ _ q1 Tryz.underlying132 rfl (by rw[q0c];exact q0g) ?_)|(with_reducible refine gld 132 ?_;refine wpList_load_mid rfl 132 _ rfl (A+1) 97 rfl _ _ q2 Tryz.underlying132 rfl (by rw[q0c];exact q0g) ?_)|(with_reducible show wpList _ _ _ (⟨_,Op.build 247 _,_,_,_,_⟩::_) _ _;refine q1D rfl _ _ _ rfl (false&&false) (λi=>r (1+i)) (λi=>s (97+i)) rfl rfl rfl ?_;rw[<-HL.out])|(with_reducible refine gst 247 ?_;rw[<-ap.out,<-HB.out];refine wpList_store_mid rfl 247 _ _ rfl B 0 L.toArray rfl rfl (by simpa[K.out]using ax) (by simpa[K.out]using q0h) ao.out ?_;rw[List.toList_toArray,<-aq.out])|(with_reducible refine gld 247 ?_;refine wpList_load_mid rfl 247 _ rfl B 0 rfl M _ rM Tryz.underlying247 rfl (by rw[l.out];exact q0h) ?_)|(with_reducible refine gst 247 ?_;refine wpList_store_mid rfl 247 _ _ rfl (A+2) 0 M.toArray rfl rfl (by simpa[l.out]using tz) (by simpa[l.out]using q0h) R.out ?_;rw[List.toList_toArray,<-S.out]));refine bodyPost_ret (v:=.agg M.toArray) (res_load1 Tryz.results211 rfl C.out) rfl ?_;exact⟨by rw[HM.out],by rw[<-ar.out];exact NX,FX⟩
  have T:=(u.a 0 _ (q0x r (by omega))).1;have U:=(u.b 0 _ (q0x s (by omega))).1;rw[<-Hx.out]at T;rw[<-Hy.out]at U;have am:=u.b.sub 97 96 (by omega);have an:=u.a.sub 97 96 (by omega);have ag:=hyd u;clear u;go_wp2_with (first|(with_reducible refine gld 132 ?_;refine wpList_load_mid rfl 132 _ rfl A 1 rfl _ _ q1 Tryz.underlying132 rfl (by rw[q0c];exact q0g) ?_)|(with_reducible refine gld 132 ?_;refine wpList_load_mid rfl 132 _ rfl (A+1) 97 rfl _ _ q2 Tryz.underlying132 rfl (by rw[q0c];exact q0g) ?_)|(with_reducible show wpList _ _ _ (⟨_,Op.build 247 _,_,_,_,_⟩::_) _ _;refine q1D rfl _ _ _ rfl (false&&true) (λi=>r (1+i)) (λi=>s (97+i)) rfl rfl rfl ?_;rw[<-HL.out])|(with_reducible refine gst 247 ?_;rw[<-ap.out,<-HB.out];refine wpList_store_mid rfl 247 _ _ rfl B 0 L.toArray rfl rfl (by simpa[K.out]using ax) (by simpa[K.out]using q0h) ao.out ?_;rw[List.toList_toArray,<-aq.out])|(with_reducible refine gld 132 ?_;refine wpList_load_mid rfl 132 _ rfl (A+1) 97 rfl _ _ am Tryz.underlying132 rfl (by rw[q0c];exact q0g) ?_)|(with_reducible refine gld 132 ?_;refine wpList_load_mid rfl 132 _ rfl A 97 rfl _ _ an Tryz.underlying132 rfl (by rw[q0c];exact q0g) ?_));refine Calls.mono (q0Z _ _ W5) ?_;rintro e v9 ⟨rfl,ai⟩;have J9:=ag.out.below ai;obtain⟨G2,H⟩:=nam (bl (λi=>s (97+i) || r (97+i)) 96);have O:=J9.put 97 96 (λi=>s (97+i) || r (97+i)) (by omega);have aa:=J9.c.thereAt 97 96 (by omega);rw[<-H]at O ⊢;obtain⟨W9,X⟩:=nam (v9.setCells B 97 G2);rw[<-X]at O;have az:=hyd X;have J:Hid (G2.length=96):=by show _=_;rw[H];exact q0c _ _
  have af:Hid (G2.toArray.all (·.oneCell')=true):=by show _=true;rw[H];exact q0w _ _
  clear X H J9 ai am an;have t:=O.c;obtain⟨M,D⟩:=nam (bl (over (rn3 (false&&true) (λi=>r (1+i)) (λi=>s (97+i))) 97 96 (λi=>s (97+i) || r (97+i))) 193);rw[<-D]at t;have j:M.length=193:=by rw[D];exact q0c _ _
  have rM:=t.range;have HM:Hid (M=bl (jn r s) 193):=by
   show _=_;rw[D];refine q0o (λi hi=>?_);have e1:=Hx.out;have e2:=Hy.out;unfold jn;rw[<-e1,<-e2];simp only[over,rn3];by_cases V:i=0
   ·subst V;simp
   by_cases h1:i<97
   ·have Q:1+(i-1)=i:=by omega
    simp[V,h1,Q,show ¬97<=i by omega]
   have Q:97+(i-97)=i:=by omega
   simp[V,h1,Q,show 97<=i by omega,show i<193 by omega]
  have tz:=q0I O.z;have m:=q0e (A+2) M 0 W9;have E:=World.rangeAt_setCells_same W9 (A+2) 0 M (by rw[j];exact tz);have d:=run_loadVar_mid (P:=Tryz.prog) (W9.setCells (A+2) 0 M) (A+2) 0 247 M _ E Tryz.underlying247 rfl (by rw[j];exact q0h);obtain⟨g1,g2,g3,g4,g5⟩:=O.g;have NX:=O.n.mine m (by omega) (λe=>by have:=g4 _ e;omega) (λe=>by have:=g5 _ e;omega);have FX:=O.f.mine m (by omega) (by omega);obtain⟨WX,o⟩:=nam (W9.setCells (A+2) 0 M);rw[<-o]at d NX FX;have S:=hyd o;have C:=hyd d;have l:=hyd j;have R:Hid (M.toArray.all (·.oneCell')=true):=by show _=true;rw[D];exact q0w _ _
  clear D j m E d o t g1 g2 g3 g4 g5 O;go_wp2_with (first|(with_reducible refine gst 132 ?_;refine wpList_store_mid rfl 132 _ _ rfl B 97 G2.toArray rfl rfl (by simpa[J.out]using aa) (by simpa[J.out]using q0g) af.out ?_;rw[List.toList_toArray,<-az.out])|(with_reducible refine gld 247 ?_;refine wpList_load_mid rfl 247 _ rfl B 0 rfl M _ rM Tryz.underlying247 rfl (by rw[l.out];exact q0h) ?_)|(with_reducible refine gst 247 ?_;refine wpList_store_mid rfl 247 _ _ rfl (A+2) 0 M.toArray rfl rfl (by simpa[l.out]using tz) (by simpa[l.out]using q0h) R.out ?_;rw[List.toList_toArray,<-S.out]));refine bodyPost_ret (v:=.agg M.toArray) (res_load1 Tryz.results211 rfl C.out) rfl ?_;exact⟨by rw[HM.out],by rw[<-ar.out];exact NX,FX⟩
 cases y
 ·have T:=(u.a 0 _ (q0x r (by omega))).1;have U:=(u.b 0 _ (q0x s (by omega))).1;rw[<-Hx.out]at T;rw[<-Hy.out]at U;have ak:=u.a.sub 1 96 (by omega);have al:=u.b.sub 1 96 (by omega);have ag:=hyd u;clear u;go_wp2_with (first|(with_reducible refine gld 132 ?_;refine wpList_load_mid rfl 132 _ rfl A 1 rfl _ _ q1 Tryz.underlying132 rfl (by rw[q0c];exact q0g) ?_)|(with_reducible refine gld 132 ?_;refine wpList_load_mid rfl 132 _ rfl (A+1) 97 rfl _ _ q2 Tryz.underlying132 rfl (by rw[q0c];exact q0g) ?_)|(with_reducible show wpList _ _ _ (⟨_,Op.build 247 _,_,_,_,_⟩::_) _ _;refine q1D rfl _ _ _ rfl (true&&false) (λi=>r (1+i)) (λi=>s (97+i)) rfl rfl rfl ?_;rw[<-HL.out])|(with_reducible refine gst 247 ?_;rw[<-ap.out,<-HB.out];refine wpList_store_mid rfl 247 _ _ rfl B 0 L.toArray rfl rfl (by simpa[K.out]using ax) (by simpa[K.out]using q0h) ao.out ?_;rw[List.toList_toArray,<-aq.out])|(with_reducible refine gld 132 ?_;refine wpList_load_mid rfl 132 _ rfl A 1 rfl _ _ ak Tryz.underlying132 rfl (by rw[q0c];exact q0g) ?_)|(with_reducible refine gld 132 ?_;refine wpList_load_mid rfl 132 _ rfl (A+1) 1 rfl _ _ al Tryz.underlying132 rfl (by rw[q0c];exact q0g) ?_));refine Calls.mono (q0Z _ _ W5) ?_;rintro e v7 ⟨rfl,ah⟩;have J7:=ag.out.below ah;obtain⟨G1,G⟩:=nam (bl (λi=>r (1+i) || s (1+i)) 96);have N:=J7.put 1 96 (λi=>r (1+i) || s (1+i)) (by omega);have Z:=J7.c.thereAt 1 96 (by omega);rw[<-G]at N ⊢;obtain⟨W7,W⟩:=nam (v7.setCells B 1 G1);rw[<-W]at N;have ay:=hyd W;have I:Hid (G1.length=96):=by show _=_;rw[G];exact q0c _ _
  have ae:Hid (G1.toArray.all (·.oneCell')=true):=by show _=true;rw[G];exact q0w _ _
  clear W G J7 ah ak al;have aC:=(N.b 0 _ (q0x s (by omega))).1;rw[<-Hy.out]at aC;have t:=N.c;obtain⟨M,D⟩:=nam (bl (over (rn3 (true&&false) (λi=>r (1+i)) (λi=>s (97+i))) 1 96 (λi=>r (1+i) || s (1+i))) 193);rw[<-D]at t;have j:M.length=193:=by rw[D];exact q0c _ _
  have rM:=t.range;have HM:Hid (M=bl (jn r s) 193):=by
   show _=_;rw[D];refine q0o (λi hi=>?_);have e1:=Hx.out;have e2:=Hy.out;unfold jn;rw[<-e1,<-e2];simp only[over,rn3];by_cases V:i=0
   ·subst V;simp
   by_cases h1:i<97
   ·have Q:1+(i-1)=i:=by omega
    simp[V,h1,Q,show ¬97<=i by omega,show 1<=i by omega]
   have Q:97+(i-97)=i:=by omega
   simp[V,h1,Q]
  have tz:=q0I N.z;have m:=q0e (A+2) M 0 W7;have E:=World.rangeAt_setCells_same W7 (A+2) 0 M (by rw[j];exact tz);have d:=run_loadVar_mid (P:=Tryz.prog) (W7.setCells (A+2) 0 M) (A+2) 0 247 M _ E Tryz.underlying247 rfl (by rw[j];exact q0h);obtain⟨g1,g2,g3,g4,g5⟩:=N.g;have NX:=N.n.mine m (by omega) (λe=>by have:=g4 _ e;omega) (λe=>by have:=g5 _ e;omega);have FX:=N.f.mine m (by omega) (by omega);obtain⟨WX,o⟩:=nam (W7.setCells (A+2) 0 M);rw[<-o]at d NX FX;have S:=hyd o;have C:=hyd d;have l:=hyd j;have R:Hid (M.toArray.all (·.oneCell')=true):=by show _=true;rw[D];exact q0w _ _
  clear D j m E d o t g1 g2 g3 g4 g5 N;go_wp2_with (first|(with_reducible refine gst 132 ?_;refine wpList_store_mid rfl 132 _ _ rfl B 1 G1.toArray rfl rfl (by simpa[I.out]using Z) (by simpa[I.out]using q0g) ae.out ?_;rw[List.toList_toArray,<-ay.out])|(with_reducible refine gld 247 ?_;refine wpList_load_mid rfl 247 _ rfl B 0 rfl M _ rM Tryz.underlying247 rfl (by rw[l.out];exact q0h) ?_)|(with_reducible refine gst 247 ?_;refine wpList_store_mid rfl 247 _ _ rfl (A+2) 0 M.toArray rfl rfl (by simpa[l.out]using tz) (by simpa[l.out]using q0h) R.out ?_;rw[List.toList_toArray,<-S.out]));refine bodyPost_ret (v:=.agg M.toArray) (res_load1 Tryz.results211 rfl C.out) rfl ?_;exact⟨by rw[HM.out],by rw[<-ar.out];exact NX,FX⟩
 have T:=(u.a 0 _ (q0x r (by omega))).1;have U:=(u.b 0 _ (q0x s (by omega))).1;rw[<-Hx.out]at T;rw[<-Hy.out]at U;have ak:=u.a.sub 1 96 (by omega);have al:=u.b.sub 1 96 (by omega);have ag:=hyd u;clear u;go_wp2_with (first|(with_reducible refine gld 132 ?_;refine wpList_load_mid rfl 132 _ rfl A 1 rfl _ _ q1 Tryz.underlying132 rfl (by rw[q0c];exact q0g) ?_)|(with_reducible refine gld 132 ?_;refine wpList_load_mid rfl 132 _ rfl (A+1) 97 rfl _ _ q2 Tryz.underlying132 rfl (by rw[q0c];exact q0g) ?_)|(with_reducible show wpList _ _ _ (⟨_,Op.build 247 _,_,_,_,_⟩::_) _ _;refine q1D rfl _ _ _ rfl (true&&true) (λi=>r (1+i)) (λi=>s (97+i)) rfl rfl rfl ?_;rw[<-HL.out])|(with_reducible refine gst 247 ?_;rw[<-ap.out,<-HB.out];refine wpList_store_mid rfl 247 _ _ rfl B 0 L.toArray rfl rfl (by simpa[K.out]using ax) (by simpa[K.out]using q0h) ao.out ?_;rw[List.toList_toArray,<-aq.out])|(with_reducible refine gld 132 ?_;refine wpList_load_mid rfl 132 _ rfl A 1 rfl _ _ ak Tryz.underlying132 rfl (by rw[q0c];exact q0g) ?_)|(with_reducible refine gld 132 ?_;refine wpList_load_mid rfl 132 _ rfl (A+1) 1 rfl _ _ al Tryz.underlying132 rfl (by rw[q0c];exact q0g) ?_));refine Calls.mono (q0Z _ _ W5) ?_;rintro e v7 ⟨rfl,ah⟩;have J7:=ag.out.below ah;obtain⟨G1,G⟩:=nam (bl (λi=>r (1+i) || s (1+i)) 96);have N:=J7.put 1 96 (λi=>r (1+i) || s (1+i)) (by omega);have Z:=J7.c.thereAt 1 96 (by omega);rw[<-G]at N ⊢;obtain⟨W7,W⟩:=nam (v7.setCells B 1 G1);rw[<-W]at N;have ay:=hyd W;have I:Hid (G1.length=96):=by show _=_;rw[G];exact q0c _ _
 have ae:Hid (G1.toArray.all (·.oneCell')=true):=by show _=true;rw[G];exact q0w _ _
 clear W G J7 ah ak al;have aC:=(N.b 0 _ (q0x s (by omega))).1;rw[<-Hy.out]at aC;have am:=N.b.sub 97 96 (by omega);have an:=N.a.sub 97 96 (by omega);have aL:=hyd N;clear N;go_wp2_with (first|(with_reducible refine gst 132 ?_;refine wpList_store_mid rfl 132 _ _ rfl B 1 G1.toArray rfl rfl (by simpa[I.out]using Z) (by simpa[I.out]using q0g) ae.out ?_;rw[List.toList_toArray,<-ay.out])|(with_reducible refine gld 132 ?_;refine wpList_load_mid rfl 132 _ rfl (A+1) 97 rfl _ _ am Tryz.underlying132 rfl (by rw[q0c];exact q0g) ?_)|(with_reducible refine gld 132 ?_;refine wpList_load_mid rfl 132 _ rfl A 97 rfl _ _ an Tryz.underlying132 rfl (by rw[q0c];exact q0g) ?_));refine Calls.mono (q0Z _ _ W7) ?_;rintro e v9 ⟨rfl,ai⟩;have J9:=aL.out.below ai;obtain⟨G2,H⟩:=nam (bl (λi=>s (97+i) || r (97+i)) 96);have O:=J9.put 97 96 (λi=>s (97+i) || r (97+i)) (by omega);have aa:=J9.c.thereAt 97 96 (by omega);rw[<-H]at O ⊢;obtain⟨W9,X⟩:=nam (v9.setCells B 97 G2);rw[<-X]at O;have az:=hyd X;have J:Hid (G2.length=96):=by show _=_;rw[H];exact q0c _ _
 have af:Hid (G2.toArray.all (·.oneCell')=true):=by show _=true;rw[H];exact q0w _ _
 clear X H J9 ai am an;have t:=O.c;obtain⟨M,D⟩:=nam (bl (over (over (rn3 (true&&true) (λi=>r (1+i)) (λi=>s (97+i))) 1 96 (λi=>r (1+i) || s (1+i))) 97 96 (λi=>s (97+i) || r (97+i))) 193);rw[<-D]at t;have j:M.length=193:=by rw[D];exact q0c _ _
 have rM:=t.range;have HM:Hid (M=bl (jn r s) 193):=by
  show _=_;rw[D];refine q0o (λi hi=>?_);have e1:=Hx.out;have e2:=Hy.out;unfold jn;rw[<-e1,<-e2];simp only[over,rn3];by_cases V:i=0
  ·subst V;simp
  by_cases h1:i<97
  ·have Q:1+(i-1)=i:=by omega
   simp[V,h1,Q,show ¬97<=i by omega,show 1<=i by omega]
  have Q:97+(i-97)=i:=by omega
  simp[V,h1,Q,show 97<=i by omega,show i<193 by omega]
 have tz:=q0I O.z;have m:=q0e (A+2) M 0 W9;have E:=World.rangeAt_setCells_same W9 (A+2) 0 M (by rw[j];exact tz);have d:=run_loadVar_mid (P:=Tryz.prog) (W9.setCells (A+2) 0 M) (A+2) 0 247 M _ E Tryz.underlying247 rfl (by rw[j];exact q0h);obtain⟨g1,g2,g3,g4,g5⟩:=O.g;have NX:=O.n.mine m (by omega) (λe=>by have:=g4 _ e;omega) (λe=>by have:=g5 _ e;omega);have FX:=O.f.mine m (by omega) (by omega);obtain⟨WX,o⟩:=nam (W9.setCells (A+2) 0 M);rw[<-o]at d NX FX;have S:=hyd o;have C:=hyd d;have l:=hyd j;have R:Hid (M.toArray.all (·.oneCell')=true):=by show _=true;rw[D];exact q0w _ _
 clear D j m E d o t g1 g2 g3 g4 g5 O;go_wp2_with (first|(with_reducible refine gst 132 ?_;refine wpList_store_mid rfl 132 _ _ rfl B 97 G2.toArray rfl rfl (by simpa[J.out]using aa) (by simpa[J.out]using q0g) af.out ?_;rw[List.toList_toArray,<-az.out])|(with_reducible refine gld 247 ?_;refine wpList_load_mid rfl 247 _ rfl B 0 rfl M _ rM Tryz.underlying247 rfl (by rw[l.out];exact q0h) ?_)|(with_reducible refine gst 247 ?_;refine wpList_store_mid rfl 247 _ _ rfl (A+2) 0 M.toArray rfl rfl (by simpa[l.out]using tz) (by simpa[l.out]using q0h) R.out ?_;rw[List.toList_toArray,<-S.out]));refine bodyPost_ret (v:=.agg M.toArray) (res_load1 Tryz.results211 rfl C.out) rfl ?_;exact⟨by rw[HM.out],by rw[<-ar.out];exact NX,FX⟩
end Go.Proofs.YtoaaklhpmhjhkaaGreat
