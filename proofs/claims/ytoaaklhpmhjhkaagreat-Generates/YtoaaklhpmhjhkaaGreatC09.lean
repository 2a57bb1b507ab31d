import Derived.Laws.OwnMore
import Derived.Test.YtoaaklhpmhjhkaaGreatC06
import Derived.Test.YtoaaklhpmhjhkaaGreatC08
set_option maxRecDepth 100000
set_option maxHeartbeats 4000000
set_option linter.all false
namespace Go.Proofs.YtoaaklhpmhjhkaaGreat
open Go.RowKit
open Bm
def SH (xs:List Value):Nat->List Value->List Value
 |_,[]=>xs
 |o,v::vs=>SH (xs.set o v) (o+1) vs
theorem Qb:∀(vs:List Value) (xs:List Value) (o i:Nat),o+vs.length<=xs.length->(SH xs o vs)[i]?=if o<=i/\i<o+vs.length then vs[i-o]? else xs[i]?
 |[],xs,o,i,_=>by rw[SH,if_neg (by simp)]
 |v::vs,xs,o,i,h=>by
  simp only[List.length_cons]at h;rw[SH,Qb vs (xs.set o v) (o+1) i (by simp;omega)];simp only[List.length_cons];by_cases e:i=o
  ·subst e;rw[g_,p_,List.getElem?_set_self (by omega)];simp
  by_cases e2:o+1<=i/\i<o+1+vs.length
  ·rw[if_pos e2,p_,show i-o=(i-(o+1))+1 by omega];simp
  rw[if_neg e2,g_,List.getElem?_set_ne (λx=>e x.symm)]
variable {a:Act}{ops:Array Oper}{Q:Exit->Act->World->Prop}{rest:List Oper}{B N b base cap g i j n nb size:Nat}{F f:N_}{bh hs:Nat->N_}{nx:Nat->Nat->Int}{o op:Oper}{v vb vb' vb2 vh vh' vh2:Value}{W W' w w' w1 w2:World}
theorem Oe {e:TypeId}:∀(vs:List Value) (o:Nat) (xs:List Value) (w:World),w.ownsRow base e size (sL g n cap) n xs->(w.setCells g o vs).ownsRow base e size (sL g n cap) n (SH xs o vs)
 |[],_,_,_,h=>h
 |v::vs,o,_,_,h=>Oe vs (o+1) _ _ (h.stored o v).1
def Vp (n:Nat) (f:Nat->Nat->Bool):List (Nat->Bool):=(List.range n).map f
theorem XK (n:Nat) (f:Nat->N_):(Vp n f).length=n:=by simp[Vp]
theorem RG {p:Nat} (f:Nat->N_) (h:p<n):(Vp n f)[p]?=some (f p):=by simp[Vp,h]
theorem Kv (n:Nat) (f:Nat->N_):Vp (n+1) f=Vp n f++[f n]:=by simp[Vp,ZT]
theorem GF {f g:Nat->N_} (h:∀p q,p<n->q<104->f p q=g p q):Xf (Vp n f)=Xf (Vp n g):=by
 unfold Xf Vp;rw[List.flatMap_map,List.flatMap_map];have:∀p∈List.range n,bl (f p) 104=bl (g p) 104:=λp a=>YU (λq b=>h p q (by simpa using a) b)
 rw[List.flatMap_def,List.flatMap_def,ZO this]
theorem GE {f g:Nat->N_} (h:∀p q,p<n->q<256->f p q=g p q):V9 (Vp n f)=V9 (Vp n g):=by
 unfold V9 Vp;rw[List.flatMap_map,List.flatMap_map];have:∀p∈List.range n,bl (f p) 256=bl (g p) 256:=λp a=>YU (λq b=>h p q (by simpa using a) b)
 rw[List.flatMap_def,List.flatMap_def,ZO this]
theorem XV.congr {f g:Nat->N_} (h:XV base v (Vp n f) w) (e:∀p q,p<n->q<104->f p q=g p q):XV base v (Vp n g) w:=by
 unfold XV at *;rw[XK]at *;rw[<-GF e];exact h
theorem WE.congr {f g:Nat->N_} (h:WE base v (Vp n f) w) (e:∀p q,p<n->q<256->f p q=g p q):WE base v (Vp n g) w:=by
 unfold WE at *;rw[XK]at *;rw[<-GE e];exact h
theorem Mj (l:List (N_)):(Xf l).length=l.length*104:=by
 induction l with
 |nil=>rfl
 |cons f l ih=>rw[show Xf (f::l)=bl f 104++Xf l from by simp[Xf],Zl,ih,Y9,List.length_cons];omega
theorem XV.put {f:Nat->N_} (h:XV base (sL g n cap) (Vp n f) w) (p o m:Nat) (G:N_) (z:p<n) (y:o+m<=104):
  XV base (sL g n cap) (Vp n (λi=>if i=p then Xp (f p) o m G else f i)) (w.setCells g (p*104+o) (bl G m)):=by
 unfold XV at *;rw[XK]at *;have h1:=Oe (bl G m) (p*104+o) _ _ h;have d:(Xf (Vp n f)).length=n*104:=by rw[Mj,XK]
 have e:SH (Xf (Vp n f)) (p*104+o) (bl G m)=Xf (Vp n (λi=>if i=p then Xp (f p) o m G else f i)):=by
  refine List.ext_getElem? (λi=>?_);rw[Qb _ _ _ _ (by rw[Y9,d];omega),Y9];rcases ZD i (n*104)with hi|hi
  ·have j:i/104<n:=Nat.div_lt_of_lt_mul (by omega);have k:=Nat.mod_lt i (show 0<104 by omega);have l:i/104*104+i%104=i:=by have:=Nat.div_add_mod i 104;omega
   have b:=Um (Vp n f) (i/104) (i%104) _ (RG f j) k;have c:=Um (Vp n (λi=>if i=p then Xp (f p) o m G else f i)) (i/104) (i%104) _ (RG _ j) k;rw[l]at b c;rw[b,c];by_cases a:i/104=p
   ·rw[if_pos a];unfold Xp;by_cases e2:o<=i%104/\i%104<o+m
    ·rw[p_,if_pos e2,YO _ (by omega)];congr 3;omega
    rw[g_,if_neg e2,a]
   rw[if_neg a,if_neg ?_];intro h2;apply a;have h3:p<=i/104:=(Nat.le_div_iff_mul_le (by omega)).2 (by omega);have q:i/104<p+1:=Nat.div_lt_of_lt_mul (by omega);omega
  rw[g_,ZB (by rw[d];exact hi),ZB (by rw[Mj,XK];exact hi)]
 rw[e]at h1;exact h1
theorem XV.thereAt {f:Nat->N_} (h:XV base (sL g n cap) (Vp n f) w) (p o m:Nat) (y:p<n) (z:o+m<=104):w.there g (p*104+o) m:=λj a=>by
 unfold XV at h;rw[XK]at h;have h1:=h.cellAt (p*104+o+j) (by omega);have h2:=Um (Vp n f) p (o+j) _ (RG f y) (by omega);rw[show p*104+(o+j)=p*104+o+j by omega]at h2;rw[h2]at h1;exact⟨by rw[h1];rfl,h.frozenAt _⟩
theorem XV.sub {f:Nat->N_} (h:XV base (sL g n cap) (Vp n f) w) (p o m:Nat) (y:p<n) (z:o+m<=104):w.rangeAt g (p*104+o) (bl (λi=>f p (o+i)) m):=λj v a=>by
 have b:j<m:=by have:=(Zi.1 a).1;rw[Y9]at this;exact this
 rw[YO _ b]at a;cases a;unfold XV at h;rw[XK]at h;have h1:=h.cellAt (p*104+o+j) (by omega);have h2:=Um (Vp n f) p (o+j) _ (RG f y) (by omega);rw[show p*104+(o+j)=p*104+o+j by omega]at h2;rw[h2]at h1;exact h1
structure YH (nb base:Nat) (vh vb:Value) (n:Nat) (hs bh:Nat->Nat->Bool) (F:Nat->Bool) (w:World):Prop where
 c:TC nb (vh::vb::bl F 104) w
 h:WE base vh (Vp n hs) w
 b:XV base vb (Vp n bh) w
 ne:∀k,vh.ownBlock=some k->vb.ownBlock≠some k
theorem YH.below (h:YH nb base vh vb n hs bh F w) (y:Bl w w'):YH nb base vh vb n hs bh F w':=
 ⟨h.c.below y,h.h.below y,h.b.below y,h.ne⟩
structure NF (nb:Nat) (vh vb vh' vb':Value) (w w':World):Prop where
 b:Below nb w w'
 k:∀k,k<w.heap.size->k≠nb->vh.ownBlock≠some k->vb.ownBlock≠some k->w'.heap[k]?=w.heap[k]?
 oh:∀k,vh'.ownBlock=some k->vh.ownBlock=some k\/w.heap.size<=k
 ob:∀k,vb'.ownBlock=some k->vb.ownBlock=some k\/w.heap.size<=k
theorem NF.of (vh vb:Value) {w w':World} (y:nb<=w.heap.size) (h:Bl w w'):NF nb vh vb vh vb w w':=⟨h.mono y,λk a _ _ _=>h.block k a,λ_ h=>Or.inl h,λ_ h=>Or.inl h⟩
theorem NF.trans {z y:Value} (a:NF nb vh vb z y w w1) (b:NF nb z y vh2 vb2 w1 w2):NF nb vh vb vh2 vb2 w w2:=by
 have hs:=a.b.size;refine⟨a.b.trans b.b,λk c h1 h2 h3=>?_,λk c=>?_,λk c=>?_⟩
 ·rw[b.k k (by omega) h1 (λe=>?_) (λe=>?_),a.k k c h1 h2 h3]
  ·rcases a.oh k e with h|h
   ·exact h2 h
   omega
  rcases a.ob k e with h|h
  ·exact h3 h
  omega
 ·rcases b.oh k c with h|h
  ·exact a.oh k h
  exact Or.inr (by omega)
 rcases b.ob k c with h|h
 ·exact a.ob k h
 exact Or.inr (by omega)
theorem YH.congr {hs' bh':Nat->N_} (h:YH nb base vh vb n hs bh F w) (y:∀p q,p<n->q<256->hs p q=hs' p q) (e2:∀p q,p<n->q<104->bh p q=bh' p q):YH nb base vh vb n hs' bh' F w:=
 ⟨h.c,h.h.congr y,h.b.congr e2,h.ne⟩
theorem XV.slc {f:Nat->N_} (h:XV base v (Vp n f) w) (y:0<n):∃g cap,v=sL g n cap:=by
 obtain⟨ad,cap,e,h1⟩:=h.at_;rw[XK]at e;obtain⟨g,e2,_⟩:=h1 0 (f 0) (RG f y);subst e2;exact⟨g,cap,e⟩
structure LK (nb base:Nat) (vh vb:Value) (n:Nat) (hs bh:Nat->Nat->Bool) (F L G:Nat->Bool) (w W:World):Prop where
 n:YH nb base vh vb n hs bh F W
 l:TC w.heap.size (bl L 96) W
 g:TC (w.heap.size+1) (bl G 96) W
 f:NF nb vh vb vh vb w W
def PU (bh:Nat->Nat->Bool) (L G:Nat->Bool) (m p q:Nat):Bool:=bh p q || (decide (p<m)&&L p&&decide (q<96)&&G q)
theorem NT (nb base:Nat) (vh vb:Value) (n:Nat) (hs bh:Nat->N_) (F L G:N_) (w:World) (hN:YH nb base vh vb n hs bh F w) (af:nb<base) (hn:n<=96):
  Cp 221 #[pT nb,.agg (bl L 96).toArray,.agg (bl G 96).toArray] w λe w'=>e=.returned (.tuple #[])/\YH nb base vh vb n hs (PU bh L G n) F w'/\NF nb vh vb vh vb w w':=by
 have ae:=hN.c.lt;obtain⟨W,J⟩:=nam ((w.alloc (.cells (bl L 96).toArray 132)).alloc (.cells (bl G 96).toArray 132));have S0:LK nb base vh vb n hs (PU bh L G 0) F L G w W:=by
  have h1:(w.alloc (.cells (bl L 96).toArray 132)).heap.size=w.heap.size+1:=by simp
  have T1:=TC.boxed w (bl L 96) 132;have T2:=TC.boxed (w.alloc (.cells (bl L 96).toArray 132)) (bl G 96) 132;rw[h1,<-J]at T2;have x1:=box_bel w (.cells (bl L 96).toArray 132);have x2:=box_bel (w.alloc (.cells (bl L 96).toArray 132)) (.cells (bl G 96).toArray 132);rw[<-J]at x2;have B:Bl w W:=x1.trans (x2.mono (by omega));exact⟨(hN.below B).congr (λ_ _ _ _=>rfl) (λp q _ _=>by simp[PU]),T1.block (x2.block _ (by omega)),T2,NF.of vh vb (by omega) B⟩
 have N:Hid (∀k,vb.ownBlock=some k->k<w.heap.size):=λk u=>(hN.b.blk k u).2
 clear hN;go_enter Tryz.func221,Tryz.ntmps221;go_wp2;rw[<-J];clear J
 go_loopw [6] (λx w'=>∃p:Nat,p<=n/\x=I6 p/\LK nb base vh vb n hs (PU bh L G p) F L G w w') (λx _=>n-(intOf x).toNat)
 ·exact⟨0,by omega,rfl,S0⟩
 clear S0;obtain⟨p,hp,rfl,S⟩:=hrel;have c1:=(S.n.c 1 _ rfl).1;by_cases r:p<n
 ·obtain⟨g,cap,rfl⟩:=S.n.b.slc (by omega);have aa:(p:Int)<n:=by omega
  have ab:(p:Int)<96:=by omega
  have cl:=(S.l p _ (YO _ (by omega))).1;have H:∀i q,PU bh L G (p+1) i q=(PU bh L G p i q || (decide (i=p)&&L p&&decide (q<96)&&G q)):=λi q=>by
   unfold PU;by_cases e:i=p
   ·subst e;simp
   by_cases e2:i<p
   ·simp[e,e2,show i<p+1 by omega]
   simp[e,e2,show ¬i<p+1 by omega]
  have j:=hyd H;clear H;obtain⟨x,Z⟩:=nam (L p);rw[<-Z]at cl j;have Hx:=hyd Z;clear Z;cases x
  ·have S2:LK nb base vh (sL g n cap) n hs (PU bh L G (p+1)) F L G w wr:=⟨S.n.congr (λ_ _ _ _=>rfl) (λi q _ _=>by rw[j.out];simp),S.l,S.g,S.f⟩;clear S;go_wp2;go_roundw
   ·exact⟨p+1,by omega,by go_num,S2⟩
   simp[intOf];omega
  have t:=S.n.b.sub p 0 96 r (by omega);simp only[Zn,Nat.add_zero]at t;have E:=S.g.range;have z:Hid (LK nb base vh (sL g n cap) n hs (PU bh L G p) F L G w wr):=S;clear S;go_wp2;have HC:Hid (Cp 174 #[.agg (bl (λi=>PU bh L G p p i) 96).toArray,.agg (bl G 96).toArray] wr.drew λe w'=>e=.returned (.agg (bl (λq=>PU bh L G p p q || G q) 96).toArray)/\Below wr.drew.heap.size wr.drew w'):=Xw _ _ _;have R:wr.drew.cell? (a_ nb 1)=some (sL g n cap)/\wr.drew.rangeAt (w.heap.size+1) 0 (bl G 96):=⟨c1,E⟩;have Y:wr.drew.rangeAt g (p*104) (bl (λi=>PU bh L G p p i) 96):=t;refine wp_region_held_drew (S:=λw'=>w'.cell? (a_ nb 1)=some (sL g n cap)/\w'.rangeAt (w.heap.size+1) 0 (bl G 96)) (by kernel_rfl) R (λhHeld=>?_);clear t E c1 cl;refine tQ 0 ?_
  refine tQ 1 ?_
  refine tQ 2 ?_
  refine tQ 3 ?_
  refine tQ 4 ?_
  refine tQ 5 ?_
  refine tQ 6 ?_
  refine tQ 7 ?_
  refine tQ 8 ?_
  refine tQ 9 ?_
  refine tQ 10 ?_
  refine tQ 11 ?_
  refine wpAnyH_take (i:=13) (oi:=?o13) (v:=.agg (bl G 96).toArray) ?hi13 ?hs13 ?hf13 ?hr13 ?hQ13 (Or.inl ⟨?hw13,?hy13⟩) ?hS13 ?rest13
  case hi13=>simp only[gel];rfl
  case hs13=>kernel_rfl
  case hf13=>kernel_rfl
  case hr13=>kernel_rfl
  case hQ13=>exact λ_ _ _ h=>h
  case hS13=>assumption
  case hw13=>rfl
  case hy13=>exact λw' V=>XR 132 _ rfl (w.heap.size+1) 0 rfl (bl G 96) _ V.2 u_a rfl (by rw[Y9];exact Y1)
  (try simp only[psm])
  refine wpAnyH_ready (rs:=[12]) (by kernel_rfl) (by simp) ?_;refine AllReadyH.cons (o:=?o12) ?hi12 (λK m=>?_) AllReadyH.nil
  case hi12=>simp only[gel];rfl
  rw[if_pos (by rfl)];unfold Oper.wp;rw[XR 132 _ rfl g (p*104) rfl (bl (λi=>PU bh L G p p i) 96) _ Y u_a rfl (by rw[Y9];exact Y1)];refine m.out _ _ hHeld (λhHeld=>?_);clear m K
  (try simp only[psm])
  refine wpAnyH_ready (rs:=[14]) (by kernel_rfl) (by simp) ?_;refine AllReadyH.cons (o:=?o14) ?hi14 (λK m=>?_) AllReadyH.nil
  case hi14=>simp only[gel];rfl
  go_simp;refine Calls.mono HC ?_;rintro e w2 ⟨rfl,D⟩;have d:Bl wr w2:=(Zk _ _).drew.trans D;have S1:=z.out;have S2:LK nb base vh (sL g n cap) n hs (PU bh L G p) F L G w w2:=
   ⟨S1.n.below d,S1.l.block (d.block _ S1.l.ltB),S1.g.block (d.block _ S1.g.ltB),S1.f.trans (NF.of _ _ (by have:=S1.n.c.lt;omega) d)⟩
  obtain⟨Q,A⟩:=nam (bl (λq=>PU bh L G p p q || G q) 96);have C:Q.length=96:=by rw[A];exact Y9 _ _
  have I:=S2.n.b.thereAt p 0 96 r (by omega);have a:=Y8 g Q (p*104) w2;have X:=S2.n.b.blk g rfl;have s:=S2.n.ne;have O:LK nb base vh (sL g n cap) n hs (PU bh L G (p+1)) F L G w (w2.setCells g (p*104) Q):=by
   have h1:=S2.n.b.put p 0 96 (λq=>PU bh L G p p q || G q) r (by omega);rw[<-A,Nat.add_zero]at h1;have ac:=N.out g rfl;refine⟨⟨S2.n.c.block (a.block _ S2.n.c.lt (λe=>by have:=Zh e;omega)),S2.n.h.keep (λk u=>a.block k (S2.n.h.blk k u).2 (λe=>by have:=Zh e;subst this;exact s k u rfl)),h1.congr (λi q _ hq=>?_),s⟩,S2.l.block (a.block _ S2.l.ltB (λe=>by have:=Zh e;omega)),S2.g.block (a.block _ S2.g.ltB (λe=>by have:=Zh e;omega)),S2.f.trans ⟨(Zk _ _).grown a (by have:=S2.n.c.lt;omega) (λq hq=>by cases hq;omega),λk u _ _ h3=>a.block k u (λe=>h3 e.symm),λ_ h=>Or.inl h,λ_ h=>Or.inl h⟩⟩;rw[j.out];by_cases e:i=p
   ·subst e;simp only[if_true,decide_true,Bool.true_and];unfold Xp;by_cases e2:q<96
    ·rw[p_];simp[e2]
    rw[g_];simp[e2]
   simp[e]
  have M:Hid (Q.toArray.all (·.oneCell')=true):=by show _=true;rw[A];exact YL _ _
  have y:=hyd C;have T:w2.cell? (a_ nb 1)=some (sL g n cap)/\w2.rangeAt (w.heap.size+1) 0 (bl G 96):=⟨(S2.n.c 1 _ rfl).1,S2.g.range⟩;have U:(w2.setCells g (p*104) Q).cell? (a_ nb 1)=some (sL g n cap)/\(w2.setCells g (p*104) Q).rangeAt (w.heap.size+1) 0 (bl G 96):=⟨(O.n.c 1 _ rfl).1,O.g.range⟩;rw[<-A];rw[Nat.add_zero]at I;clear z HC D S1 S2 A C a j d s X;refine m.out _ _ T (λhHeld=>?_);clear m K
  (try simp only[psm])
  refine tQ 15 ?_
  refine tQ 16 ?_
  refine wpAnyH_ready (rs:=[17]) (by kernel_rfl) (by simp) ?_;refine AllReadyH.cons (o:=?o17) ?hi17 (λK m=>?_) AllReadyH.nil
  case hi17=>simp only[gel];rfl
  rw[if_pos (by rfl)];refine wp_store_mid 132 _ _ rfl g (p*104) Q.toArray rfl rfl (by simpa[y.out]using I) (by simpa[y.out]using Y1) M.out ?_;rw[Zc];refine m.out _ _ U (λhHeld=>?_);clear m K;refine wpAnyH_done (by kernel_rfl) ?_ _;go_wp2;go_roundw
  ·exact⟨p+1,by omega,by go_num,O⟩
  simp[intOf];omega
 have⟨hge,hpn⟩:¬(p:Int)<n/\p=n:=by omega
 subst hpn;obtain⟨ad,cap,P,_⟩:=S.n.b.at_;rw[XK]at P;rw[P]at c1;have SN:=S.n;have SF:=S.f;clear S P;go_wp2;go_end0;exact⟨rfl,SN,SF⟩
theorem Qi (z:Nat->Option (Nat × Nat)) (Z:Array Value) (i y:Nat) (v:Value) (cs:List Value) (rest:List (Nat × Value)) (H:z i=some (y,cs.length)) (J:v.cells=cs.toArray) (Y:y+cs.length<=Z.size):
  ∃Z',Instr.fill z Z ((i,v)::rest)=Instr.fill z Z' rest/\Z'.size=Z.size/\∀k,Z'[k]?=if y<=k/\k<y+cs.length then cs[k-y]? else Z[k]?:=by
 obtain⟨h1,h2⟩:=Js y cs 0 Z (by omega);refine⟨_,?_,h1,λk=>?_⟩
 ·rw[Instr.fill];simp only[H,J];rw[if_neg (by simp;omega)];have e:(cs.toArray).zipIdx.foldl (λcs (x:Value × Nat)=>cs.setIfInBounds (y+x.2) x.1) Z=(cs.zipIdx 0).foldl (λcs (x:Value × Nat)=>cs.setIfInBounds (y+x.2) x.1) Z:=by
   rw[<-Array.foldl_toList,Array.toList_zipIdx]
  rw[e]
 rw[h2 k,Nat.add_zero]
def Mx (b:Bool) (f g:Nat->Bool):Nat->Bool:=λi=>if i=0 then b else if i<97 then f (i-1) else g (i-97)
def Cq (i:Nat):Option (Nat × Nat):=#[(0,1),(1,96),(97,96)][i]?
theorem Cj (b:Bool) (f g:N_) (Z:Array Value) (y:Z.size=193):Instr.fill Cq Z [(0,.bool b),(1,.agg (bl f 96).toArray),(2,.agg (bl g 96).toArray)]=some (bl (Mx b f g) 193).toArray:=by
 obtain⟨e,j,d,k⟩:=Qi Cq Z 0 0 (.bool b) [.bool b] [(1,.agg (bl f 96).toArray),(2,.agg (bl g 96).toArray)] rfl rfl (by rw[y];simp);obtain⟨h,l,m,n⟩:=Qi Cq e 1 1 (.agg (bl f 96).toArray) (bl f 96) [(2,.agg (bl g 96).toArray)] (by rw[Y9];rfl) rfl (by rw[d,y,Y9];omega);obtain⟨o,c1,c2,c3⟩:=Qi Cq h 2 97 (.agg (bl g 96).toArray) (bl g 96) [] (by rw[Y9];rfl) rfl (by rw[m,d,y,Y9];omega);rw[j,l,c1,Instr.fill];congr 1;refine Array.ext_getElem? (λi=>?_);rw[c3,n,k];simp only[Y9,List.length_singleton];rcases ZD i 193 with a|a
 ·have c:(bl (Mx b f g) 193).toArray[i]?=(bl (Mx b f g) 193)[i]?:=by simp
  rw[c,YO _ a];unfold Mx;by_cases h0:i=0
  ·subst h0;simp
  by_cases h1:i<97
  ·rw[g_,p_,if_neg h0,if_pos h1,YO _ (by omega)]
  rw[p_,if_neg h0,if_neg h1,YO _ (by omega)]
 have c:(bl (Mx b f g) 193).toArray[i]?=none:=by rw[Array.getElem?_eq_none (by simp[Y9];exact a)]
 rw[c,g_,g_,g_];simp;omega
theorem Jr (b:Bool) (f g:N_) (w:World):(Instr.build 247 #[(0,.bool b),(1,.agg (bl f 96).toArray),(2,.agg (bl g 96).toArray)]).run Tryz.prog w=.ok (.agg (bl (Mx b f g) 193).toArray) w:=by
 have d:(Instr.build 247 #[(0,.bool b),(1,.agg (bl f 96).toArray),(2,.agg (bl g 96).toArray)]).run Tryz.prog w=(match Instr.fill Cq (bl (λ_=>false) 193).toArray [(0,.bool b),(1,.agg (bl f 96).toArray),(2,.agg (bl g 96).toArray)]with
  |some cells=>(pure (.agg cells):Go.Sem Value)
  | none => stuck "build: no such field, or a part of the wrong size").run Tryz.prog w := by kernel_rfl
 have c:=Cj b f g (bl (λ_=>false) 193).toArray (by simp[Y9]);rw[d,c];rfl
theorem VR (H:op.guard=none) (x y z:Operand) (J:op.op=.build 247 #[(0,x),(1,y),(2,z)]) (b:Bool) (f g:N_) (Y:a.eval x=.bool b) (Z:a.eval y=.agg (bl f 96).toArray) (hz:a.eval z=.agg (bl g 96).toArray)
  (h:wpList Tryz.prog ops Q rest (a.put op.dst (.agg (bl (Mx b f g) 193).toArray)) w):wpList Tryz.prog ops Q (op::rest) a w:=
 wpList_plain H λ_ c=>by
  unfold Oper.wp execOp;have d:=Jr b f g w;have e:(#[((0:Nat),x),(1,y),(2,z)].map λ(p:Nat × Operand)=>(p.1,a.eval p.2))=#[(0,.bool b),(1,.agg (bl f 96).toArray),(2,.agg (bl g 96).toArray)]:=by simp[Y,Z,hz]
  simp only[J,Sem.run_bind,e,d,Zu,Sem.run_pure];exact c _ _ h
theorem Ds {o:Nat}{t:TypeId}{d:TypeDesc} (h:w.rangeAt b o (bl f n)) (H:Tryz.prog.underlying t=some d) (y:d.isRow=true) (z:(Tryz.prog.info? t).map (·.size)=some n):(loadVar t (a_ b o)).run Tryz.prog w=.ok (.agg (bl f n).toArray) w:=
 ZF (P:=Tryz.prog) w b o t (bl f n) _ h H y (by rw[Y9];exact z)
theorem Ox {g:N_} (h:TC b (bl g 193) w) (f:N_):(loadVar 247 (a_ b 0)).run Tryz.prog (w.setCells b 0 (bl f 193))=.ok (.agg (bl f 193).toArray) (w.setCells b 0 (bl f 193)):=
 Ds (Zo w b 0 (bl f 193) (by rw[Y9];exact Yi h)) u_b rfl Y4
theorem YH.mine (h:YH nb base vh vb n hs bh F w) {k:Nat} (y:w.grownBy w' (some k)) (h1:k≠nb) (h2:vh.ownBlock≠some k) (h3:vb.ownBlock≠some k):YH nb base vh vb n hs bh F w':=
 ⟨h.c.block (y.block _ h.c.lt (λe=>h1 (Zh e).symm)),h.h.keep (λq a=>y.block q (h.h.blk q a).2 (λe=>h2 (by rw[a,e]))),h.b.keep (λq a=>y.block q (h.b.blk q a).2 (λe=>h3 (by rw[a,e]))),h.ne⟩
theorem NF.mine (h:NF nb vh vb vh' vb' w w1) {k:Nat} (y:w1.grownBy w2 (some k)) (z:w.heap.size<=k) (H:nb<w.heap.size):NF nb vh vb vh' vb' w w2:=
 ⟨h.b.grown y (by have:=h.b.size;omega) (λq c=>by cases c;omega),λq h1 h2 h3 a=>by rw[y.block q (by have:=h.b.size;omega) (λe=>by have:=Zh e;omega)];exact h.k q h1 h2 h3 a,h.oh,h.ob⟩
structure JN (nb base:Nat) (vh vb:Value) (n:Nat) (hs bh:Nat->Nat->Bool) (F r s c:Nat->Bool) (w W:World) (A B:Nat):Prop where
 n:YH nb base vh vb n hs bh F W
 a:TC A (bl r 193) W
 b:TC (A+1) (bl s 193) W
 z:TC (A+2) (bl (fun _=>false) 193) W
 c:TC B (bl c 193) W
 f:NF nb vh vb vh vb w W
 g:A=w.heap.size/\nb<A/\A+3<=B/\(∀k,vh.ownBlock=some k->k<A)/\(∀k,vb.ownBlock=some k->k<A)
theorem JN.below {r s c:N_}{A:Nat} (h:JN nb base vh vb n hs bh F r s c w W A B) (y:Bl W W'):JN nb base vh vb n hs bh F r s c w W' A B:=
 ⟨h.n.below y,h.a.block (y.block _ h.a.ltB),h.b.block (y.block _ h.b.ltB),h.z.block (y.block _ h.z.ltB),h.c.block (y.block _ h.c.ltB),h.f.trans (NF.of vh vb (by have:=h.n.c.lt;omega) y),h.g⟩
theorem JN.put {r s c:N_}{A:Nat} (h:JN nb base vh vb n hs bh F r s c w W A B) (o m:Nat) (G:N_) (y:o+m<=193):JN nb base vh vb n hs bh F r s (Xp c o m G) w (W.setCells B o (bl G m)) A B:=by
 have d:=Y8 B (bl G m) o W;obtain⟨g1,g2,k,i,j⟩:=h.g;exact⟨h.n.mine d (by omega) (λe=>by have:=i _ e;omega) (λe=>by have:=j _ e;omega),h.a.block (d.block _ h.a.ltB (λe=>by have:=Zh e;omega)),h.b.block (d.block _ h.b.ltB (λe=>by have:=Zh e;omega)),h.z.block (d.block _ h.z.ltB (λe=>by have:=Zh e;omega)),h.c.setPart o m G y,h.f.mine d (by omega) (by omega),h.g⟩
def jn (r s:Nat->Bool):Nat->Bool:=λi=>if i=0 then r 0&&s 0 else if i<97 then r i || (r 0&&s i) else s i || (s 0&&r i)
theorem RE (nb base:Nat) (vh vb:Value) (n:Nat) (hs bh:Nat->N_) (F r s:N_) (w:World) (hN:YH nb base vh vb n hs bh F w) (aP:nb<base) (hn:n<=96):
  Cp 211 #[pT nb,.agg (bl r 193).toArray,.agg (bl s 193).toArray] w λe w'=>e=.returned (.agg (bl (jn r s) 193).toArray)/\YH nb base vh vb n hs (PU bh (λp=>r (97+p)) (λq=>s (1+q)) n) F w'/\NF nb vh vb vh vb w w':=by
 have hz:=Wo;have aO:=hN.c.lt;have aE:Hid (∀k,vh.ownBlock=some k->k<w.heap.size):=λk hk=>(hN.h.blk k hk).2
 have aD:Hid (∀k,vb.ownBlock=some k->k<w.heap.size):=λk hk=>(hN.b.blk k hk).2
 obtain⟨A,hA⟩:=nam w.heap.size;obtain⟨W1,ah⟩:=nam (w.alloc (.cells (bl r 193).toArray 247));obtain⟨W2,aq⟩:=nam (W1.alloc (.cells (bl s 193).toArray 247));obtain⟨W3,ar⟩:=nam (W2.alloc (.cells (bl (λ_=>false) 193).toArray 247));have z1:W1.heap.size=A+1:=by rw[ah,hA];simp
 have z2:W2.heap.size=A+2:=by rw[aq];simp[z1]
 have z3:W3.heap.size=A+3:=by rw[ar];simp[z2]
 have S0:YH nb base vh vb n hs bh F W3/\TC A (bl r 193) W3/\TC (A+1) (bl s 193) W3/\TC (A+2) (bl (λ_=>false) 193) W3/\NF nb vh vb vh vb w W3:=by
  have T1:=TC.boxed w (bl r 193) 247;have T2:=TC.boxed W1 (bl s 193) 247;have T3:=TC.boxed W2 (bl (λ_=>false) 193) 247;have x1:=box_bel w (.cells (bl r 193).toArray 247);have x2:Below W1.heap.size W1 _:=box_bel W1 (.cells (bl s 193).toArray 247);have x3:Below W2.heap.size W2 _:=box_bel W2 (.cells (bl (λ_=>false) 193).toArray 247);rw[<-ah,<-hA]at T1;rw[<-ah]at x1;rw[<-aq,z1]at T2 x2;rw[<-ar,z2]at T3 x3;have B:Bl w W3:=(x1.trans (x2.mono (by omega))).trans (x3.mono (by omega));exact⟨hN.below B,(T1.block (x2.block _ (by omega))).block (x3.block _ (by omega)),T2.block (x3.block _ (by omega)),T3,NF.of vh vb (by omega) B⟩
 obtain⟨aH,ay,az,aI,aG⟩:=S0;have r1:=ay.sub 97 96 (by omega);have r2:=az.sub 1 96 (by omega);have HA:=hyd hA;have HW:Hid (W3=((w.alloc (.cells (bl r 193).toArray 247)).alloc (.cells (bl s 193).toArray 247)).alloc (.cells (bl (λ_=>false) 193).toArray 247)):=by show _=_;rw[ar,aq,ah]
 have aF:=hyd z3;rw[hA]at r1 r2;clear hN ah aq ar z1 z2 z3 hA;go_enter Tryz.func211,Tryz.ntmps211;go_wp2_with (first|(with_reducible refine gld 132 ?_;rw[<-HW.out];refine Zb rfl 132 _ rfl w.heap.size 97 rfl _ _ r1 u_a rfl (by rw[Y9];exact Y1) ?_)|(with_reducible refine gld 132 ?_;refine Zb rfl 132 _ rfl (w.heap.size+1) 1 rfl _ _ r2 u_a rfl (by rw[Y9];exact Y1) ?_));refine Calls.mono (NT nb base vh vb n hs bh F _ _ W3 aH aP hn) ?_;rintro e w1 ⟨rfl,N1,F1⟩;rw[<-HA.out];have aa:=aE.out;have Z:=aD.out;have aL:=HA.out;have aM:=F1.b.size;have aN:=aF.out;have kp:∀k,A<=k->k<A+3->w1.heap[k]?=W3.heap[k]?:=λk h1 h2=>F1.k k (by omega) (by omega) (λe=>by have:=aa k e;omega) (λe=>by have:=Z k e;omega)
 have T1:=ay.block (kp A (by omega) (by omega));have T2:=az.block (kp (A+1) (by omega) (by omega));have T3:=aI.block (kp (A+2) (by omega) (by omega));have F2:=aG.trans F1;obtain⟨bh2,aC⟩:=nam (PU bh (λp=>r (97+p)) (λq=>s (1+q)) n);rw[<-aC]at N1;have ap:=hyd aC;clear aH ay az aI aG F1 kp r1 r2 aa Z aC HW aF;have ca:=(T1 0 _ (YO r (by omega))).1;have cb:=(T2 0 _ (YO s (by omega))).1;have q1:=T1.sub 1 96 (by omega);have q2:=T2.sub 97 96 (by omega);obtain⟨B,hB⟩:=nam w1.heap.size;obtain⟨W4,aB⟩:=nam (w1.alloc (.cells (bl (λ_=>false) 193).toArray 247));have x4:=box_bel w1 (.cells (bl (λ_=>false) 193).toArray 247);have T4:=TC.boxed w1 (bl (λ_=>false) 193) 247;rw[<-aB]at x4 T4;rw[<-hB]at T4;have N4:=N1.below x4;have F4:=F2.trans (NF.of vh vb (by omega) x4);have U1:=T1.block (x4.block _ T1.ltB);have U2:=T2.block (x4.block _ T2.ltB);have U3:=T3.block (x4.block _ T3.ltB);obtain⟨x,hx⟩:=nam (r 0);obtain⟨y,hy⟩:=nam (s 0);rw[<-hx]at ca;rw[<-hy]at cb;have Hx:=hyd hx;have Hy:=hyd hy;obtain⟨L,hL⟩:=nam (bl (Mx (x&&y) (λi=>r (1+i)) (λi=>s (97+i))) 193);have HL:=hyd hL;have K:Hid (L.length=193):=by show _=_;rw[hL];exact Y9 _ _
 have am:Hid (L.toArray.all (·.oneCell')=true):=by show _=true;rw[hL];exact YL _ _
 have av:=Yi T4;obtain⟨W5,au⟩:=nam (W4.setCells B 0 L);have W:=Y8 B L 0 W4;rw[<-au]at W;have aa:=aE.out;have Z:=aD.out;have T5:TC B (bl (Mx (x&&y) (λi=>r (1+i)) (λi=>s (97+i))) 193) W5:=by
  have:=T4.setPart 0 193 (Mx (x&&y) (λi=>r (1+i)) (λi=>s (97+i))) (by omega);rw[<-hL,<-au,YU (g:=Mx (x&&y) (λi=>r (1+i)) (λi=>s (97+i))) (λi hi=>by unfold Xp;rw[p_];rfl)]at this;exact this
 have aK:A+3<=B:=by omega
 have N5:=N4.mine W (by omega) (λe=>by have:=aa _ e;omega) (λe=>by have:=Z _ e;omega);have F5:=F4.mine W (by omega) (by omega);have V1:=U1.block (W.block _ U1.ltB (λe=>by have:=Zh e;omega));have V2:=U2.block (W.block _ U2.ltB (λe=>by have:=Zh e;omega));have V3:=U3.block (W.block _ U3.ltB (λe=>by have:=Zh e;omega));have u:JN nb base vh vb n hs bh2 F r s (Mx (x&&y) (λi=>r (1+i)) (λi=>s (97+i))) w W5 A B:=⟨N5,V1,V2,V3,T5,F5,by omega,by omega,aK,λk hk=>by have:=aa k hk;omega,λk hk=>by have:=Z k hk;omega⟩;have ao:=hyd au;have an:=hyd aB;have HB:=hyd hB;clear hx hy hL au W aB x4 N1 F2 T1 T2 T3 T4 T5 U1 U2 U3 N4 F4 hB N5 F5 V1 V2 V3 aa Z aL aM aN;cases x
 ·cases y
  ·have S:=(u.a 0 _ (YO r (by omega))).1;have T:=(u.b 0 _ (YO s (by omega))).1;rw[<-Hx.out]at S;rw[<-Hy.out]at T;have t:=u.c;obtain⟨M,D⟩:=nam (bl (Mx (false&&false) (λi=>r (1+i)) (λi=>s (97+i))) 193);rw[<-D]at t;have j:M.length=193:=by rw[D];exact Y9 _ _
   have rM:=t.range;have HM:Hid (M=bl (jn r s) 193):=by
    show _=_;rw[D];refine YU (λi hi=>?_);have e1:=Hx.out;have e2:=Hy.out;unfold jn;rw[<-e1,<-e2];simp only[Mx];by_cases h0:i=0
    ·subst h0;simp
    by_cases h1:i<97
    ·have h2:1+(i-1)=i:=by omega
     simp[h0,h1,h2,show ¬97<=i by omega]
    have h2:97+(i-97)=i:=by omega
    simp[h0,h1,h2]
   have tz:=Yi u.z;have m:=Y8 (A+2) M 0 W5;have E:=Zo W5 (A+2) 0 M (by rw[j];exact tz);have d:=ZF (P:=Tryz.prog) (W5.setCells (A+2) 0 M) (A+2) 0 247 M _ E u_b rfl (by rw[j];exact Y4);obtain⟨g1,g2,g3,g4,g5⟩:=u.g;have NX:=u.n.mine m (by omega) (λe=>by have:=g4 _ e;omega) (λe=>by have:=g5 _ e;omega);have FX:=u.f.mine m (by omega) (by omega);obtain⟨WX,o⟩:=nam (W5.setCells (A+2) 0 M);rw[<-o]at d NX FX;have R:=hyd o;have C:=hyd d;have l:=hyd j;have Q:Hid (M.toArray.all (·.oneCell')=true):=by show _=true;rw[D];exact YL _ _
   clear D j m E d o t g1 g2 g3 g4 g5 u;go_wp2_with (first|(with_reducible refine gld 132 ?_;refine Zb rfl 132 _ rfl A 1 rfl _ _ q1 u_a rfl (by rw[Y9];exact Y1) ?_)|(with_reducible refine gld 132 ?_;refine Zb rfl 132 _ rfl (A+1) 97 rfl _ _ q2 u_a rfl (by rw[Y9];exact Y1) ?_)|(with_reducible show wpList _ _ _ (⟨_,Op.build 247 _,_,_,_,_⟩::_) _ _;refine VR rfl _ _ _ rfl (false&&false) (λi=>r (1+i)) (λi=>s (97+i)) rfl rfl rfl ?_;rw[<-HL.out])|(with_reducible refine gst 247 ?_;rw[<-an.out,<-HB.out];refine Za rfl 247 _ _ rfl B 0 L.toArray rfl rfl (by simpa[K.out]using av) (by simpa[K.out]using Y4) am.out ?_;rw[Zc,<-ao.out])|(with_reducible refine gld 247 ?_;refine Zb rfl 247 _ rfl B 0 rfl M _ rM u_b rfl (by rw[l.out];exact Y4) ?_)|(with_reducible refine gst 247 ?_;refine Za rfl 247 _ _ rfl (A+2) 0 M.toArray rfl rfl (by simpa[l.out]using tz) (by simpa[l.out]using Y4) Q.out ?_;rw[Zc,<-R.out]));refine Zr (v:=.agg M.toArray) (res_load1 Tryz.results211 rfl C.out) rfl ?_;exact⟨by rw[HM.out],by rw[<-ap.out];exact NX,FX⟩
  have S:=(u.a 0 _ (YO r (by omega))).1;have T:=(u.b 0 _ (YO s (by omega))).1;rw[<-Hx.out]at S;rw[<-Hy.out]at T;have ak:=u.b.sub 97 96 (by omega);have al:=u.a.sub 97 96 (by omega);have ae:=hyd u;clear u;go_wp2_with (first|(with_reducible refine gld 132 ?_;refine Zb rfl 132 _ rfl A 1 rfl _ _ q1 u_a rfl (by rw[Y9];exact Y1) ?_)|(with_reducible refine gld 132 ?_;refine Zb rfl 132 _ rfl (A+1) 97 rfl _ _ q2 u_a rfl (by rw[Y9];exact Y1) ?_)|(with_reducible show wpList _ _ _ (⟨_,Op.build 247 _,_,_,_,_⟩::_) _ _;refine VR rfl _ _ _ rfl (false&&true) (λi=>r (1+i)) (λi=>s (97+i)) rfl rfl rfl ?_;rw[<-HL.out])|(with_reducible refine gst 247 ?_;rw[<-an.out,<-HB.out];refine Za rfl 247 _ _ rfl B 0 L.toArray rfl rfl (by simpa[K.out]using av) (by simpa[K.out]using Y4) am.out ?_;rw[Zc,<-ao.out])|(with_reducible refine gld 132 ?_;refine Zb rfl 132 _ rfl (A+1) 97 rfl _ _ ak u_a rfl (by rw[Y9];exact Y1) ?_)|(with_reducible refine gld 132 ?_;refine Zb rfl 132 _ rfl A 97 rfl _ _ al u_a rfl (by rw[Y9];exact Y1) ?_));refine Calls.mono (Xw _ _ W5) ?_;rintro e v9 ⟨rfl,ag⟩;have J9:=ae.out.below ag;obtain⟨G2,H⟩:=nam (bl (λi=>s (97+i) || r (97+i)) 96);have O:=J9.put 97 96 (λi=>s (97+i) || r (97+i)) (by omega);have Y:=J9.c.thereAt 97 96 (by omega);rw[<-H]at O ⊢;obtain⟨W9,V⟩:=nam (v9.setCells B 97 G2);rw[<-V]at O;have ax:=hyd V;have J:Hid (G2.length=96):=by show _=_;rw[H];exact Y9 _ _
  have ac:Hid (G2.toArray.all (·.oneCell')=true):=by show _=true;rw[H];exact YL _ _
  clear V H J9 ag ak al;have t:=O.c;obtain⟨M,D⟩:=nam (bl (Xp (Mx (false&&true) (λi=>r (1+i)) (λi=>s (97+i))) 97 96 (λi=>s (97+i) || r (97+i))) 193);rw[<-D]at t;have j:M.length=193:=by rw[D];exact Y9 _ _
  have rM:=t.range;have HM:Hid (M=bl (jn r s) 193):=by
   show _=_;rw[D];refine YU (λi hi=>?_);have e1:=Hx.out;have e2:=Hy.out;unfold jn;rw[<-e1,<-e2];simp only[Xp,Mx];by_cases h0:i=0
   ·subst h0;simp
   by_cases h1:i<97
   ·have h2:1+(i-1)=i:=by omega
    simp[h0,h1,h2,show ¬97<=i by omega]
   have h2:97+(i-97)=i:=by omega
   simp[h0,h1,h2,show 97<=i by omega,show i<193 by omega]
  have tz:=Yi O.z;have m:=Y8 (A+2) M 0 W9;have E:=Zo W9 (A+2) 0 M (by rw[j];exact tz);have d:=ZF (P:=Tryz.prog) (W9.setCells (A+2) 0 M) (A+2) 0 247 M _ E u_b rfl (by rw[j];exact Y4);obtain⟨g1,g2,g3,g4,g5⟩:=O.g;have NX:=O.n.mine m (by omega) (λe=>by have:=g4 _ e;omega) (λe=>by have:=g5 _ e;omega);have FX:=O.f.mine m (by omega) (by omega);obtain⟨WX,o⟩:=nam (W9.setCells (A+2) 0 M);rw[<-o]at d NX FX;have R:=hyd o;have C:=hyd d;have l:=hyd j;have Q:Hid (M.toArray.all (·.oneCell')=true):=by show _=true;rw[D];exact YL _ _
  clear D j m E d o t g1 g2 g3 g4 g5 O;go_wp2_with (first|(with_reducible refine gst 132 ?_;refine Za rfl 132 _ _ rfl B 97 G2.toArray rfl rfl (by simpa[J.out]using Y) (by simpa[J.out]using Y1) ac.out ?_;rw[Zc,<-ax.out])|(with_reducible refine gld 247 ?_;refine Zb rfl 247 _ rfl B 0 rfl M _ rM u_b rfl (by rw[l.out];exact Y4) ?_)|(with_reducible refine gst 247 ?_;refine Za rfl 247 _ _ rfl (A+2) 0 M.toArray rfl rfl (by simpa[l.out]using tz) (by simpa[l.out]using Y4) Q.out ?_;rw[Zc,<-R.out]));refine Zr (v:=.agg M.toArray) (res_load1 Tryz.results211 rfl C.out) rfl ?_;exact⟨by rw[HM.out],by rw[<-ap.out];exact NX,FX⟩
 cases y
 ·have S:=(u.a 0 _ (YO r (by omega))).1;have T:=(u.b 0 _ (YO s (by omega))).1;rw[<-Hx.out]at S;rw[<-Hy.out]at T;have ai:=u.a.sub 1 96 (by omega);have aj:=u.b.sub 1 96 (by omega);have ae:=hyd u;clear u;go_wp2_with (first|(with_reducible refine gld 132 ?_;refine Zb rfl 132 _ rfl A 1 rfl _ _ q1 u_a rfl (by rw[Y9];exact Y1) ?_)|(with_reducible refine gld 132 ?_;refine Zb rfl 132 _ rfl (A+1) 97 rfl _ _ q2 u_a rfl (by rw[Y9];exact Y1) ?_)|(with_reducible show wpList _ _ _ (⟨_,Op.build 247 _,_,_,_,_⟩::_) _ _;refine VR rfl _ _ _ rfl (true&&false) (λi=>r (1+i)) (λi=>s (97+i)) rfl rfl rfl ?_;rw[<-HL.out])|(with_reducible refine gst 247 ?_;rw[<-an.out,<-HB.out];refine Za rfl 247 _ _ rfl B 0 L.toArray rfl rfl (by simpa[K.out]using av) (by simpa[K.out]using Y4) am.out ?_;rw[Zc,<-ao.out])|(with_reducible refine gld 132 ?_;refine Zb rfl 132 _ rfl A 1 rfl _ _ ai u_a rfl (by rw[Y9];exact Y1) ?_)|(with_reducible refine gld 132 ?_;refine Zb rfl 132 _ rfl (A+1) 1 rfl _ _ aj u_a rfl (by rw[Y9];exact Y1) ?_));refine Calls.mono (Xw _ _ W5) ?_;rintro e v7 ⟨rfl,af⟩;have J7:=ae.out.below af;obtain⟨G1,G⟩:=nam (bl (λi=>r (1+i) || s (1+i)) 96);have N:=J7.put 1 96 (λi=>r (1+i) || s (1+i)) (by omega);have X:=J7.c.thereAt 1 96 (by omega);rw[<-G]at N ⊢;obtain⟨W7,U⟩:=nam (v7.setCells B 1 G1);rw[<-U]at N;have aw:=hyd U;have I:Hid (G1.length=96):=by show _=_;rw[G];exact Y9 _ _
  have ab:Hid (G1.toArray.all (·.oneCell')=true):=by show _=true;rw[G];exact YL _ _
  clear U G J7 af ai aj;have aA:=(N.b 0 _ (YO s (by omega))).1;rw[<-Hy.out]at aA;have t:=N.c;obtain⟨M,D⟩:=nam (bl (Xp (Mx (true&&false) (λi=>r (1+i)) (λi=>s (97+i))) 1 96 (λi=>r (1+i) || s (1+i))) 193);rw[<-D]at t;have j:M.length=193:=by rw[D];exact Y9 _ _
  have rM:=t.range;have HM:Hid (M=bl (jn r s) 193):=by
   show _=_;rw[D];refine YU (λi hi=>?_);have e1:=Hx.out;have e2:=Hy.out;unfold jn;rw[<-e1,<-e2];simp only[Xp,Mx];by_cases h0:i=0
   ·subst h0;simp
   by_cases h1:i<97
   ·have h2:1+(i-1)=i:=by omega
    simp[h0,h1,h2,show ¬97<=i by omega,show 1<=i by omega]
   have h2:97+(i-97)=i:=by omega
   simp[h0,h1,h2]
  have tz:=Yi N.z;have m:=Y8 (A+2) M 0 W7;have E:=Zo W7 (A+2) 0 M (by rw[j];exact tz);have d:=ZF (P:=Tryz.prog) (W7.setCells (A+2) 0 M) (A+2) 0 247 M _ E u_b rfl (by rw[j];exact Y4);obtain⟨g1,g2,g3,g4,g5⟩:=N.g;have NX:=N.n.mine m (by omega) (λe=>by have:=g4 _ e;omega) (λe=>by have:=g5 _ e;omega);have FX:=N.f.mine m (by omega) (by omega);obtain⟨WX,o⟩:=nam (W7.setCells (A+2) 0 M);rw[<-o]at d NX FX;have R:=hyd o;have C:=hyd d;have l:=hyd j;have Q:Hid (M.toArray.all (·.oneCell')=true):=by show _=true;rw[D];exact YL _ _
  clear D j m E d o t g1 g2 g3 g4 g5 N;go_wp2_with (first|(with_reducible refine gst 132 ?_;refine Za rfl 132 _ _ rfl B 1 G1.toArray rfl rfl (by simpa[I.out]using X) (by simpa[I.out]using Y1) ab.out ?_;rw[Zc,<-aw.out])|(with_reducible refine gld 247 ?_;refine Zb rfl 247 _ rfl B 0 rfl M _ rM u_b rfl (by rw[l.out];exact Y4) ?_)|(with_reducible refine gst 247 ?_;refine Za rfl 247 _ _ rfl (A+2) 0 M.toArray rfl rfl (by simpa[l.out]using tz) (by simpa[l.out]using Y4) Q.out ?_;rw[Zc,<-R.out]));refine Zr (v:=.agg M.toArray) (res_load1 Tryz.results211 rfl C.out) rfl ?_;exact⟨by rw[HM.out],by rw[<-ap.out];exact NX,FX⟩
 have S:=(u.a 0 _ (YO r (by omega))).1;have T:=(u.b 0 _ (YO s (by omega))).1;rw[<-Hx.out]at S;rw[<-Hy.out]at T;have ai:=u.a.sub 1 96 (by omega);have aj:=u.b.sub 1 96 (by omega);have ae:=hyd u;clear u;go_wp2_with (first|(with_reducible refine gld 132 ?_;refine Zb rfl 132 _ rfl A 1 rfl _ _ q1 u_a rfl (by rw[Y9];exact Y1) ?_)|(with_reducible refine gld 132 ?_;refine Zb rfl 132 _ rfl (A+1) 97 rfl _ _ q2 u_a rfl (by rw[Y9];exact Y1) ?_)|(with_reducible show wpList _ _ _ (⟨_,Op.build 247 _,_,_,_,_⟩::_) _ _;refine VR rfl _ _ _ rfl (true&&true) (λi=>r (1+i)) (λi=>s (97+i)) rfl rfl rfl ?_;rw[<-HL.out])|(with_reducible refine gst 247 ?_;rw[<-an.out,<-HB.out];refine Za rfl 247 _ _ rfl B 0 L.toArray rfl rfl (by simpa[K.out]using av) (by simpa[K.out]using Y4) am.out ?_;rw[Zc,<-ao.out])|(with_reducible refine gld 132 ?_;refine Zb rfl 132 _ rfl A 1 rfl _ _ ai u_a rfl (by rw[Y9];exact Y1) ?_)|(with_reducible refine gld 132 ?_;refine Zb rfl 132 _ rfl (A+1) 1 rfl _ _ aj u_a rfl (by rw[Y9];exact Y1) ?_));refine Calls.mono (Xw _ _ W5) ?_;rintro e v7 ⟨rfl,af⟩;have J7:=ae.out.below af;obtain⟨G1,G⟩:=nam (bl (λi=>r (1+i) || s (1+i)) 96);have N:=J7.put 1 96 (λi=>r (1+i) || s (1+i)) (by omega);have X:=J7.c.thereAt 1 96 (by omega);rw[<-G]at N ⊢;obtain⟨W7,U⟩:=nam (v7.setCells B 1 G1);rw[<-U]at N;have aw:=hyd U;have I:Hid (G1.length=96):=by show _=_;rw[G];exact Y9 _ _
 have ab:Hid (G1.toArray.all (·.oneCell')=true):=by show _=true;rw[G];exact YL _ _
 clear U G J7 af ai aj;have aA:=(N.b 0 _ (YO s (by omega))).1;rw[<-Hy.out]at aA;have ak:=N.b.sub 97 96 (by omega);have al:=N.a.sub 97 96 (by omega);have aJ:=hyd N;clear N;go_wp2_with (first|(with_reducible refine gst 132 ?_;refine Za rfl 132 _ _ rfl B 1 G1.toArray rfl rfl (by simpa[I.out]using X) (by simpa[I.out]using Y1) ab.out ?_;rw[Zc,<-aw.out])|(with_reducible refine gld 132 ?_;refine Zb rfl 132 _ rfl (A+1) 97 rfl _ _ ak u_a rfl (by rw[Y9];exact Y1) ?_)|(with_reducible refine gld 132 ?_;refine Zb rfl 132 _ rfl A 97 rfl _ _ al u_a rfl (by rw[Y9];exact Y1) ?_));refine Calls.mono (Xw _ _ W7) ?_;rintro e v9 ⟨rfl,ag⟩;have J9:=aJ.out.below ag;obtain⟨G2,H⟩:=nam (bl (λi=>s (97+i) || r (97+i)) 96);have O:=J9.put 97 96 (λi=>s (97+i) || r (97+i)) (by omega);have Y:=J9.c.thereAt 97 96 (by omega);rw[<-H]at O ⊢;obtain⟨W9,V⟩:=nam (v9.setCells B 97 G2);rw[<-V]at O;have ax:=hyd V;have J:Hid (G2.length=96):=by show _=_;rw[H];exact Y9 _ _
 have ac:Hid (G2.toArray.all (·.oneCell')=true):=by show _=true;rw[H];exact YL _ _
 clear V H J9 ag ak al;have t:=O.c;obtain⟨M,D⟩:=nam (bl (Xp (Xp (Mx (true&&true) (λi=>r (1+i)) (λi=>s (97+i))) 1 96 (λi=>r (1+i) || s (1+i))) 97 96 (λi=>s (97+i) || r (97+i))) 193);rw[<-D]at t;have j:M.length=193:=by rw[D];exact Y9 _ _
 have rM:=t.range;have HM:Hid (M=bl (jn r s) 193):=by
  show _=_;rw[D];refine YU (λi hi=>?_);have e1:=Hx.out;have e2:=Hy.out;unfold jn;rw[<-e1,<-e2];simp only[Xp,Mx];by_cases h0:i=0
  ·subst h0;simp
  by_cases h1:i<97
  ·have h2:1+(i-1)=i:=by omega
   simp[h0,h1,h2,show ¬97<=i by omega,show 1<=i by omega]
  have h2:97+(i-97)=i:=by omega
  simp[h0,h1,h2,show 97<=i by omega,show i<193 by omega]
 have tz:=Yi O.z;have m:=Y8 (A+2) M 0 W9;have E:=Zo W9 (A+2) 0 M (by rw[j];exact tz);have d:=ZF (P:=Tryz.prog) (W9.setCells (A+2) 0 M) (A+2) 0 247 M _ E u_b rfl (by rw[j];exact Y4);obtain⟨g1,g2,g3,g4,g5⟩:=O.g;have NX:=O.n.mine m (by omega) (λe=>by have:=g4 _ e;omega) (λe=>by have:=g5 _ e;omega);have FX:=O.f.mine m (by omega) (by omega);obtain⟨WX,o⟩:=nam (W9.setCells (A+2) 0 M);rw[<-o]at d NX FX;have R:=hyd o;have C:=hyd d;have l:=hyd j;have Q:Hid (M.toArray.all (·.oneCell')=true):=by show _=true;rw[D];exact YL _ _
 clear D j m E d o t g1 g2 g3 g4 g5 O;go_wp2_with (first|(with_reducible refine gst 132 ?_;refine Za rfl 132 _ _ rfl B 97 G2.toArray rfl rfl (by simpa[J.out]using Y) (by simpa[J.out]using Y1) ac.out ?_;rw[Zc,<-ax.out])|(with_reducible refine gld 247 ?_;refine Zb rfl 247 _ rfl B 0 rfl M _ rM u_b rfl (by rw[l.out];exact Y4) ?_)|(with_reducible refine gst 247 ?_;refine Za rfl 247 _ _ rfl (A+2) 0 M.toArray rfl rfl (by simpa[l.out]using tz) (by simpa[l.out]using Y4) Q.out ?_;rw[Zc,<-R.out]));refine Zr (v:=.agg M.toArray) (res_load1 Tryz.results211 rfl C.out) rfl ?_;exact⟨by rw[HM.out],by rw[<-ap.out];exact NX,FX⟩
structure X9 (p:Prop):Prop where
 out:p
theorem Tm (x:Operand) (y:o.op=.buildSlice 129 1 #[(0,x)]) (f:N_) (z:a.eval x=.agg (bl f 256).toArray):
  (execOp a.eval o).run Tryz.prog w=.ok (.value (.slice (some (a_ w.heap.size 0)) 1 1)) (w.alloc (.cells (bl f 256).toArray 251)):=by
 unfold execOp;have b:=LV f w;have e:(#[((0:Nat),x)].map λ(p:Nat × Operand)=>(p.1,a.eval p.2))=#[(0,.agg (bl f 256).toArray)]:=by simp[z]
 simp only[y,Sem.run_bind,e,b,Zu,Sem.run_pure]
def Dg (n:Nat):Nat->Bool:=λi=>i==1+n || i==97+n
structure PC (base:Nat) (vh vb:Value) (nb n:Nat) (hs bh:Nat->Nat->Bool) (m:Nat) (F f c:Nat->Bool) (w W:World):Prop where
 ct:TC nb (vh::vb::bl F 104) W
 oh:WE base vh (Vp n hs) W
 ob:XV base vb (Vp m bh) W
 ne:∀k,vh.ownBlock=some k->vb.ownBlock≠some k
 st:TC w.heap.size (bl f 256) W
 zt:TC (w.heap.size+1) (bl (fun _=>false) 193) W
 ot:TC (w.heap.size+2) (bl c 193) W
 bw:Below nb w W
 nh:∀k,vh.ownBlock=some k->k<w.heap.size\/w.heap.size+3<=k
 nv:∀k,vb.ownBlock=some k->k<w.heap.size\/w.heap.size+3<=k
theorem GO (nb base:Nat) (vh vb:Value) (n:Nat) (hs bh:Nat->N_) (F f:N_) (w:World) (hN:YH nb base vh vb n hs bh F w) (br:nb<base) (bq:base<=w.heap.size) (hn:n<96):
  Cp 219 #[.pointer (some (a_ nb 0)),.agg (bl f 256).toArray] w λe w'=>∃vh' vb',e=.returned (.agg (bl (Dg n) 193).toArray)/\YH nb base vh' vb' (n+1) (λp=>if p=n then f else hs p) (λp=>if p=n then (λ_=>false) else bh p) F w'/\NF nb vh vb vh' vb' w w':=by
 have hz:=Wo;have bm:=hN.c.lt;have HN:=hyd hN;obtain⟨W1,af⟩:=nam (w.alloc (.cells (bl f 256).toArray 251));obtain⟨W2,ag⟩:=nam (W1.alloc (.cells (bl (λ_=>false) 193).toArray 247));obtain⟨o,ah⟩:=nam (W2.alloc (.cells (bl (λ_=>false) 193).toArray 247));have z1:W1.heap.size=w.heap.size+1:=by rw[af];simp
 have z2:W2.heap.size=w.heap.size+2:=by rw[ag];simp[z1]
 have z3:o.heap.size=w.heap.size+3:=by rw[ah];simp[z2]
 have S0:TC w.heap.size (bl f 256) o/\TC (w.heap.size+1) (bl (λ_=>false) 193) o/\TC (w.heap.size+2) (bl (λ_=>false) 193) o/\Bl w o:=by
  have T1:=TC.boxed w (bl f 256) 251;have T2:=TC.boxed W1 (bl (λ_=>false) 193) 247;have T3:=TC.boxed W2 (bl (λ_=>false) 193) 247;have x1:=box_bel w (.cells (bl f 256).toArray 251);have x2:Below W1.heap.size W1 _:=box_bel W1 (.cells (bl (λ_=>false) 193).toArray 247);have x3:Below W2.heap.size W2 _:=box_bel W2 (.cells (bl (λ_=>false) 193).toArray 247);rw[<-af]at T1 x1;rw[<-ag,z1]at T2 x2;rw[<-ah,z2]at T3 x3;exact⟨(T1.block (x2.block _ (by omega))).block (x3.block _ (by omega)),T2.block (x3.block _ (by omega)),T3,(x1.trans (x2.mono (by omega))).trans (x3.mono (by omega))⟩
 obtain⟨s1,s2,s3,B3⟩:=S0;have N3:=hN.below B3;obtain⟨ad,cap,eh,_⟩:=hN.h.at_;rw[XK]at eh;have aE:=hyd eh;have c0:o.cell? (a_ nb 0)=some (.slice ad n cap):=by rw[<-eh];exact(N3.c 0 _ rfl).1
 have a4:o.frozen? (a_ nb 0)=false:=(N3.c 0 _ rfl).2;have az:=s1.range;have HW:Hid (o=((w.alloc (.cells (bl f 256).toArray 251)).alloc (.cells (bl (λ_=>false) 193).toArray 247)).alloc (.cells (bl (λ_=>false) 193).toArray 247)):=by show _=_;rw[ah,ag,af]
 have aa:=hyd z3;have ar:=hyd5 s2 s3 s1 B3 N3;have bi:¬(96:Int)<=n:=by omega
 rw[HW.out]at c0;clear hN af ag ah z1 z2 z3 s1 s2 s3 B3 N3 eh;go_enter Tryz.func219,Tryz.ntmps219;go_wp2_with fail;rw[<-HW.out];rw[<-HW.out]at c0;clear HW;refine wp_region_any (by kernel_rfl) ?_;change wpAny _ _ _ _ 11 _ _ o.drew;refine tJ 0 ?_
 refine tJ 1 ?_
 refine tJ 2 ?_
 refine tJ 3 ?_
 obtain⟨R,z⟩:=nam (o.drew.alloc (.cells (bl f 256).toArray 251));have V:R.rangeAt o.drew.heap.size 0 (bl f 256):=by rw[z];exact(TC.boxed o.drew (bl f 256) 251).range
 have x4:Bl o R:=by rw[z];exact(Zk o.heap.size o).drew.trans (show Below o.heap.size o.drew _ from box_bel o.drew _)
 have q4:=c0;have be:R.cell? (a_ nb 0)=some (.slice ad n cap):=by rw[<-aE.out];exact((ar.out.2.2.2.2.below x4).c 0 _ rfl).1
 refine SG (fuel:=4) 4 5 6 (o4:=?o4) (o5:=?o5) (o6:=?o6) (v4:=.slice ad n cap) (v5:=.agg (bl f 256).toArray) (v6:=.slice (some (a_ o.drew.heap.size 0)) 1 1) (L:=#[true,true,true,true,true,true,true,false,false,false,false]) (A:=?A) (w':=R)
  ?h4 ?h5 ?h6 ?g4 ?g5 ?g6 ?r0 ?r1 ?r2 ?r3 ?r4 ?r5 ?x4 ?y4 ?z4 ?x5 ?y5 ?x6 ?y6 ?z6 ?l1 ?l2 ?l3 ?f1 ?f2 ?f3 ?fin
 case h4=>simp only[gel];rfl
 case h5=>simp only[gel];rfl
 case h6=>simp only[gel];rfl
 case g4=>rfl
 case g5=>rfl
 case g6=>rfl
 case r0=>kernel_rfl
 case r1=>kernel_rfl
 case r2=>kernel_rfl
 case r3=>kernel_rfl
 case r4=>kernel_rfl
 case r5=>kernel_rfl
 case x4=>go_simp
 case y4=>simp only[psm];go_simp
 case z4=>clear z;simp only[psm];go_simp
 case x5=>exact XR 251 _ rfl w.heap.size 0 rfl (bl f 256) _ (λj v hv=>az j v hv) u_c rfl (by rw[Y9];exact Qm)
 case y5=>exact XR 251 _ rfl w.heap.size 0 rfl (bl f 256) _ (λj v hv=>az j v hv) u_c rfl (by rw[Y9];exact Qm)
 case x6=>rw[z];exact Tm _ rfl f rfl
 case y6=>rw[z];exact Tm _ rfl f rfl
 case z6=>rw[z];exact Tm _ rfl f rfl
 case l1=>kernel_rfl
 case l2=>kernel_rfl
 case l3=>kernel_rfl
 case f1=>simp only[psm];rfl
 case f2=>simp only[psm]
 case f3=>simp only[psm]
 refine Wn 7 rfl (by kernel_rfl) ?_;simp only[ZL,Zw];obtain⟨D,hD⟩:=nam o.drew.heap.size;rw[<-hD]at V ⊢;have HD:Hid (D=w.heap.size+3):=by show _=_;rw[hD];exact aa.out
 obtain⟨g2,g3,g1,gB,gN⟩:=ar.out;have l:PC base vh vb nb n hs bh n F f (λ_=>false) w R:=by
  have N4:=gN.below x4;have a6:=HN.out.h.blk;have a7:=HN.out.b.blk;exact⟨N4.c,N4.h,N4.b,N4.ne,g1.block (x4.block _ g1.ltB),g2.block (x4.block _ g2.ltB),g3.block (x4.block _ g3.ltB),(gB.mono (by omega)).trans (x4.mono (by have:=gB.size;omega)),λk a=>Or.inl (a6 k a).2,λk a=>Or.inl (a7 k a).2⟩
 have aL:base<=R.heap.size:=by have:=l.bw.size;omega
 have aS:R.heap.size=w.heap.size+4:=by
  rw[z];have:=aa.out;show(o.drew.alloc _).heap.size=_;simp[this]
 have aG:=hyd aS;have aU:Hid (∀k,k<w.heap.size->R.heap[k]?=w.heap[k]?):=λk a=>by rw[x4.block k (by have:=aa.out;omega)];exact gB.block k a
 have aX:=hyd l;have aJ:=l.oh;clear c0 a4 az x4 q4 be z hD g1 g2 g3 gB gN ar aa l aS;refine RR (by rfl) _ _ (by rfl) base vh (Vp n hs) (by rw[aE.out];rfl) aJ (by rw[XK];omega) D f (by rfl) V aL _ rfl ?_;rw[XK];intro g s w5 ac x G bj;have l:=aX.out;have aM:g<w.heap.size\/w.heap.size+3<=g:=by
  rcases G with h|h
  ·exact l.nh g h
  have:=aG.out;omega
 have ao:vb.ownBlock≠some g:=by
  rcases G with h|h
  ·exact l.ne g h
  intro e;have:=(l.ob.blk g e).2;omega
 have T:=(ac.blk g rfl).1;have J:∀k,k<R.heap.size->vh.ownBlock≠some k->w5.heap[k]?=R.heap[k]?:=λk a ay=>x.block k a (λe=>ay e.symm)
 have d:=l.ct.block (J nb l.ct.lt (λe=>by have:=(l.oh.blk nb e).1;omega));obtain⟨cx,a5⟩:=d 0 _ rfl;have K5:=d.set 0 (by simp) (.slice (some (a_ g 0)) (n+1) s);obtain⟨B,N⟩:=nam (w5.setCell (a_ nb 0) (.slice (some (a_ g 0)) (n+1) s));rw[<-N]at K5;have C:∀k,k≠nb->B.heap[k]?=w5.heap[k]?:=λk a=>by rw[N];exact Zq w5 (a_ nb 0) _ k (λe=>a e)
 have a9:=x.size;have aA:=aG.out;have ak:Vp n hs++[f]=Vp (n+1) (λp=>if p=n then f else hs p):=by
  rw[Kv];congr 1
  ·exact ZO (λp hp=>by
     have:p<n:=by simpa using hp
     rw[g_])
  simp
 rw[ak]at ac;have I:∀k,w.heap.size<=k->k<w.heap.size+3->vh.ownBlock≠some k:=λk h1 h2 e=>by have:=l.nh k e;omega
 have r:PC base (.slice (some (a_ g 0)) (n+1) s) vb nb (n+1) (λp=>if p=n then f else hs p) bh n F f (λ_=>false) w B:=by
  have B5:Below nb w w5:=l.bw.grown x (by have:=l.bw.size;omega) (λq hq=>by have:=(l.oh.blk q hq).1;omega);refine⟨K5,ac.keep (λk a=>C k (by cases a;show g≠nb;omega)),(l.ob.keep (λk a=>J k (l.ob.blk k a).2 (λe=>l.ne k e a))).keep (λk a=>C k (λe=>by have:=(l.ob.blk k a).1;omega)),λk a=>by cases a;exact ao,?_,?_,?_,?_,λk a=>by cases a;exact aM,l.nv⟩
  ·exact(l.st.block (J _ (by omega) (I _ (by omega) (by omega)))).block (C _ (by omega))
  ·exact(l.zt.block (J _ (by omega) (I _ (by omega) (by omega)))).block (C _ (by omega))
  ·exact(l.ot.block (J _ (by omega) (I _ (by omega) (by omega)))).block (C _ (by omega))
  rw[N];exact B5.setCell (p:=(a_ nb 0)) (Zg _) _
 have aV:Hid (∀k,k<w.heap.size->k≠nb->vh.ownBlock≠some k->B.heap[k]?=w.heap[k]?):=λk h1 h2 h3=>by
  rw[C k h2,J k (by omega) h3];exact aU k h1
 have HG:Hid (vh.ownBlock=some g\/w.heap.size<=g):=by
  rcases G with h|h
  ·exact Or.inl h
  exact Or.inr (by omega)
 have aY:=hyd r;have aZ:=hyd N;obtain⟨aI,am,eb,_⟩:=r.ob.at_;rw[XK]at eb;have a1:=hyd eb;have d1:B.cell? (a_ nb 1)=some (.slice aI n am):=by rw[<-eb];exact(r.ct 1 _ rfl).1
 have e1:w5.cell? (a_ nb 1)=some (.slice aI n am):=by rw[<-eb];exact(d 1 _ rfl).1
 have bb:B.heap.size=w5.heap.size:=by rw[N];simp[World.setCell]
 obtain⟨W7,ai⟩:=nam (B.alloc (.cells (bl (λ_=>false) 104).toArray 135));have x7:Bl B W7:=by rw[ai];exact box_bel _ _
 have X:W7.rangeAt B.heap.size 0 (bl (λ_=>false) 104):=by rw[ai];exact(TC.boxed B _ _).range
 have aK:=r.ob.below x7;have an:base<=W7.heap.size:=by have:=x7.size;omega
 have aD:=hyd ai;have a2:=hyd x7;have a3:Hid (w.heap.size+4<=B.heap.size/\w.heap.size+4=R.heap.size):=⟨by omega,by omega⟩;have au:Hid (base<=g/\g<B.heap.size):=⟨T,by omega⟩;clear l aM G T J d K5 C a9 aA ak I r eb N ai x7 aJ ao V aL bb;clear ac x;go_wp2_with (first|(with_reducible show wpList _ _ _ (⟨_,Op.build 135 _,_,_,_,_⟩::_) _ _;rw[<-aZ.out];refine V6 rfl rfl ?_;refine X9.out ?_));refine⟨?_⟩
 (try simp only[psm])
 refine PD rfl _ rfl (λ_=>false) rfl ?_;rw[<-aD.out]
 (try simp only[psm])
 refine WI (by rfl) _ _ (by rfl) base vb (Vp n bh) (by rw[a1.out];rfl) aK (by rw[XK];omega) B.heap.size (λ_=>false) (by rfl) X an _ rfl ?_;rw[XK];intro K t Z ae m H aO
 (try simp only[psm])
 have r:=aY.out;have aA:=a3.out;have al:=a2.out;have ax:=au.out;have J:∀k,k<B.heap.size->vb.ownBlock≠some k->Z.heap[k]?=B.heap[k]?:=λk a ay=>by
  rw[m.block k (by have:=al.size;omega) (λe=>ay e.symm)];exact al.block k a
 have bc:W7.heap.size=B.heap.size+1:=by rw[aD.out];simp
 have a8:=(ae.blk K rfl).1;have aN:K<w.heap.size\/w.heap.size+3<=K:=by
  rcases H with h|h
  ·exact r.nv K h
  omega
 have d:=r.ct.block (J nb r.ct.lt (λe=>by have:=(r.ob.blk nb e).1;omega));obtain⟨cx,a5⟩:=d 1 _ rfl;have K9:=d.set 1 (by simp) (.slice (some (a_ K 0)) (n+1) t);have Y:∀k,w.heap.size<=k->k<w.heap.size+3->vb.ownBlock≠some k:=λk h1 h2 e=>by have:=r.nv k e;omega
 have T2:=r.ot.block (J _ (by omega) (Y _ (by omega) (by omega)));have T1:=r.zt.block (J _ (by omega) (Y _ (by omega) (by omega)));have aP:nb≠w.heap.size+2:=by omega
 obtain⟨u1,bn⟩:=T2 (1+n) _ (YO _ (by omega));obtain⟨u2,bp⟩:=T2 (97+n) _ (YO _ (by omega));obtain⟨W9,O⟩:=nam (Z.setCell (a_ nb 1) (.slice (some (a_ K 0)) (n+1) t));rw[<-O]at K9;have aj:∀k,k≠nb->W9.heap[k]?=Z.heap[k]?:=λk a=>by rw[O];exact Zq Z (a_ nb 1) _ k (λe=>a e)
 have V2:=T2.block (aj (w.heap.size+2) (by omega));have V1:=T1.block (aj (w.heap.size+1) (by omega));have av:=V2.set (1+n) (by rw[Y9];omega) (.bool true);rw[Uz]at av;have Q:=av.set (97+n) (by rw[Y9];omega) (.bool true);rw[Uz,YU (g:=Dg n) (λi _=>by
  unfold Dg;by_cases e1:i=97+n
  ·simp[e1]
  by_cases e2:i=1+n
  ·simp[e2]
  simp[e1,e2])]at Q
 obtain⟨y,u⟩:∃W,W=(W9.setCell (a_ (w.heap.size+2) (1+n)) (.bool true)).setCell (a_ (w.heap.size+2) (97+n)) (.bool true):=⟨_,rfl⟩;rw[<-u]at Q;have E:∀k,k≠w.heap.size+2->y.heap[k]?=W9.heap[k]?:=λk a=>by
  rw[u,Zq _ (a_ (w.heap.size+2) (97+n)) _ k (λe=>a e),Zq _ (a_ (w.heap.size+2) (1+n)) _ k (λe=>a e)]
 have aH:=V1.block (E (w.heap.size+1) (by omega));obtain⟨M,hM⟩:∃M,M=bl (Dg n) 193:=⟨_,rfl⟩;rw[<-hM]at Q;have ab:M.length=193:=by rw[hM];exact Y9 _ _
 have rM:=Q.range;have tz:=Yi aH;have S:=Y8 (w.heap.size+1) M 0 y;have aQ:=Zo y (w.heap.size+1) 0 M (by rw[ab];exact tz);have U:=ZF (P:=Tryz.prog) (y.setCells (w.heap.size+1) 0 M) (w.heap.size+1) 0 247 M _ aQ u_b rfl (by rw[ab];exact Y4);obtain⟨WX,aw⟩:∃W,W=y.setCells (w.heap.size+1) 0 M:=⟨_,rfl⟩;rw[<-aw]at S U;have bd:=m.size;have aT:W9.heap.size=Z.heap.size:=by rw[O];simp[World.setCell]
 have aR:y.heap.size=Z.heap.size:=by rw[u];simp[World.setCell,aT]
 have kx:∀k,k<Z.heap.size->k≠w.heap.size+1->k≠w.heap.size+2->k≠nb->WX.heap[k]?=Z.heap[k]?:=λk h0 h1 h2 h3=>by
  rw[S.block k (by omega) (λe=>h1 (Zh e)),E k h2,aj k h3]
 have ap:∀k,(Value.slice (some (a_ g 0)) (n+1) s).ownBlock=some k->(Value.slice (some (a_ K 0)) (n+1) t).ownBlock≠some k:=λk a e=>by
  cases a;have e2:K=g:=Zh e;rcases H with h|h
  ·rw[e2]at h;exact r.ne g rfl h
  have:=ax.2;omega
 have NX:YH nb base (.slice (some (a_ g 0)) (n+1) s) (.slice (some (a_ K 0)) (n+1) t) (n+1) (λp=>if p=n then f else hs p) (λp=>if p=n then (λ_=>false) else bh p) F WX:=by
  have ak:Vp n bh++[λ_=>false]=Vp (n+1) (λp=>if p=n then (λ_=>false) else bh p):=by
   rw[Kv];congr 1
   ·exact ZO (λp hp=>by
      have:p<n:=by simpa using hp
      rw[g_])
   simp
  rw[ak]at ae;have bf:=r.nh g rfl;refine⟨(K9.block (E nb aP)).block (S.block nb (by omega) (λe=>by have:=Zh e;omega)),r.oh.keep (λk a=>?_),ae.keep (λk a=>?_),ap⟩
  ·cases a;rw[kx g (by omega) (by omega) (by omega) (by omega)];exact J g ax.2 (λe=>r.ne g rfl e)
  cases a;exact kx K (by have:=aO;omega) (by omega) (by omega) (by omega)
 have FX:NF nb vh vb (.slice (some (a_ g 0)) (n+1) s) (.slice (some (a_ K 0)) (n+1) t) w WX:=by
  have B6:=r.bw;have B7:Below nb w W7:=B6.trans (al.mono (by omega));have B8:Below nb w Z:=B7.grown m (by have:=B7.size;omega) (λq hq=>by have:=(r.ob.blk q hq).1;omega);have B9:Below nb w W9:=by rw[O];exact B8.setCell (p:=(a_ nb 1)) (Zg _) _
  have aB:Below nb w y:=by
   rw[u];exact(B9.setCell (p:=(a_ (w.heap.size+2) (1+n))) (by show nb<=w.heap.size+2;omega) _).setCell (p:=(a_ (w.heap.size+2) (97+n))) (by show nb<=w.heap.size+2;omega) _
  refine⟨aB.grown S (by have:=aB.size;omega) (λq hq=>by cases hq;omega),λk h1 h2 h3 h4=>?_,λk a=>?_,λk a=>?_⟩
  ·rw[kx k (by omega) (by omega) (by omega) h2,J k (by omega) h4];exact aV k h1 h2 h3
  ·cases a;exact HG.out
  cases a;rcases H with h|h
  ·exact Or.inl h
  exact Or.inr (by show w.heap.size<=K;omega)
 have a0:=hyd aw;have aC:Hid (y=((Z.setCell (a_ nb 1) (.slice (some (a_ K 0)) (n+1) t)).setCell (a_ (w.heap.size+2) (1+n)) (.bool true)).setCell (a_ (w.heap.size+2) (97+n)) (.bool true)):=by show _=_;rw[u,O]
 have aF:=hyd U;have aq:=hyd ab;have aW:Hid (M.toArray.all (·.oneCell')=true):=by show _=true;rw[hM];exact YL _ _
 have HM:=hyd hM;clear r aA al ax J bc a8 aN d K9 Y T2 T1 O aj V2 V1 av Q u E aH hM ab S aQ U aw bd aT aR kx ap ae m H aO X an aK e1 d1;go_wp2_with (first|(with_reducible refine gld 247 ?_;rw[show w.heap.size+1+1=w.heap.size+2 from rfl,<-aC.out];refine Zb rfl 247 _ rfl (w.heap.size+2) 0 rfl M _ rM u_b rfl (by rw[aq.out];exact Y4) ?_)|(with_reducible refine gst 247 ?_;refine Za rfl 247 _ _ rfl (w.heap.size+1) 0 M.toArray rfl rfl (by simpa[aq.out]using tz) (by simpa[aq.out]using Y4) aW.out ?_;rw[Zc,<-a0.out]));refine Zr (v:=.agg M.toArray) (res_load1 Tryz.results219 rfl aF.out) rfl ?_;exact⟨_,_,by rw[HM.out],NX,FX⟩
theorem Qo:∃i,Tryz.prog.info? 78=some i/\i.zero=some (sN)/\i.size=1/\i.bytes=24:=by
 have h1:(Tryz.prog.info? 78).isSome=true:=by kernel_rfl
 obtain⟨i,a⟩:=Zx.1 h1;refine⟨i,a,?_,?_,?_⟩
 ·have:((Tryz.prog.info? 78).bind (·.zero))=some (sN):=by kernel_rfl
  rw[a]at this;exact this
 ·have:((Tryz.prog.info? 78).map (·.size))=some 1:=by kernel_rfl
  rw[a]at this;simpa using this
 have:((Tryz.prog.info? 78).map (·.bytes))=some 24:=by kernel_rfl
 rw[a]at this;simpa using this
def Q0 (n:Nat):List Value:=(List.range n).map λ_=>.slice none 0 0
theorem Jp (w:World) (n:Nat) (y:n<=1000000):(Instr.makeSlice 74 (I6 (n:Int)) (I6 (n:Int))).run Tryz.prog w=.ok (.slice (some (a_ w.heap.size 0)) n n) (w.alloc (.cells (Q0 n).toArray 78)):=by
 obtain⟨i,b,hz,hs,a⟩:=Qo;have h:=run_make (P:=Tryz.prog) w 74 78 i (sN) u_q b hz .i64 .i64 n n (by omega) (by omega) (by rw[a];omega) (by omega);rw[hs]at h;simp only[ZE,Nat.mul_one]at h;rw[show(Value.slice none 0 0).cells=#[sN] from rfl,SX]at h;exact h
def t0 (N:Nat) (vd:Nat->Int) (i j:Nat):Bool:=FP N vd i != FP N vd j
theorem QM.first (w:World) (N:Nat) (y:TypeId) (t:Nat->N_):QM w.heap.size w.heap.size N (λ_=>0) t 0 (w.alloc (.cells (Q0 (N+1)).toArray y)):=by
 have T:=TC.boxed w (Q0 (N+1)) y;have e:∀i,i<N+1->(Q0 (N+1))[i]?=some (sN):=λi a=>by simp[Q0,a]
 exact⟨λi a=>by omega,λi _ a=>(T i _ (e i a)).1,λi a=>(T i _ (e i a)).2,λi a=>by omega,λi j a=>by omega,λi a=>by omega⟩
def C2 (N:Nat) (vd:Nat->Int) (i k a b:Nat):Bool:=if a=i then decide (b<k)&&t0 N vd i b else t0 N vd a b
inductive BU (N:Nat) (vd:Nat->Int) (nx:Nat->Nat->Int) (bs:List Nat):Nat->Nat->Prop
 |base {i j:Nat} (hi:i<=N) (hj:j<=N) (h:t0 N vd i j=true):BU N vd nx bs i j
 |step {i j b:Nat} (hi:i<=N) (hj:j<=N) (hb:b∈bs) (h:BU N vd nx bs (Ud N nx i b) (Ud N nx j b)):BU N vd nx bs i j
structure Pu (N:Nat) (vd:Nat->Int) (nx:Nat->Nat->Int) (bs:List Nat) (t:Nat->Nat->Bool):Prop where
 sub:∀i j,i<=N->j<=N->t i j=true->BU N vd nx bs i j
 sym:∀i j,i<=N->j<=N->t i j=t j i
 irr:∀i,i<=N->t i i=false
 base:∀i j,i<=N->j<=N->t0 N vd i j=true->t i j=true
theorem Pu.first (N:Nat) (vd:Nat->Int) (nx:Nat->Nat->Int) (bs:List Nat):Pu N vd nx bs (t0 N vd):=
 ⟨λ_ _ h1 h2 h=>.base h1 h2 h,λi j _ _=>by simp only[t0];exact bne_comm,λi _=>by simp[t0],λ_ _ _ _ h=>h⟩
def FD (t:Nat->Nat->Bool) (i j:Nat):Nat->Nat->Bool:=C7 (C7 t i j true) j i true
theorem Uc (t:Nat->N_) (i j a b:Nat):FD t i j a b=(decide (a=i/\b=j) || decide (a=j/\b=i) || t a b):=by
 unfold FD C7;by_cases h1:a=j/\b=i
 ·simp[h1]
 by_cases h2:a=i/\b=j
 ·simp[h2]
 simp[h1,h2]
theorem Pu.put {vd:Nat->Int}{bs:List Nat}{t:Nat->N_} (h:Pu N vd nx bs t) {i j:Nat} (Y:i<=N) (Z:j<=N) (H:i≠j) (z:∀b∈bs,b<256) (J:∀i b,i<N->b<256->nx i b<N) (y:VH N nx bs t i j bs.length=true):Pu N vd nx bs (FD t i j):=by
 unfold VH at y;rw[List.take_length,List.any_eq_true]at y;obtain⟨b,k,y⟩:=y;have x1:=ON (λh=>J i b h (z b k)) Y;have x2:=ON (λh=>J j b h (z b k)) Z;refine⟨λa c ha d g=>?_,λa c ha d=>?_,λa ha=>?_,λa c ha d g=>?_⟩
 ·rw[Uc]at g;by_cases l:a=i/\c=j
  ·obtain⟨rfl,rfl⟩:=l;exact .step ha d k (h.sub _ _ x1 x2 y)
  by_cases e2:a=j/\c=i
  ·obtain⟨rfl,rfl⟩:=e2;exact .step ha d k (h.sub _ _ x2 x1 (by rw[h.sym _ _ x2 x1];exact y))
  simp only[l,e2,decide_false,Bool.false_or]at g;exact h.sub a c ha d g
 ·rw[Uc,Uc,h.sym a c ha d];congr 1;rw[Bool.or_comm];congr 1
  ·simp[and_comm]
  simp[and_comm]
 ·rw[Uc,h.irr a ha];have h1:¬(a=i/\a=j):=λ⟨e,f⟩=>H (e▸f)
  have h2:¬(a=j/\a=i):=λ⟨e,f⟩=>H (f▸e)
  simp only[h1,h2,decide_false,Bool.or_false]
 rw[Uc,h.base a c ha d g,Bool.or_true]
theorem Gg {α:Type}{L:List α}{f g:α->Bool} (h:∀p∈L,f p=true->g p=true) {q:α} (y:q∈L) (h1:g q=true) (h2:f q=false):L.countP f<L.countP g:=by
 induction L with
 |nil=>cases y
 |cons x L ih=>
  rw[List.countP_cons,List.countP_cons];have b:L.countP f<=L.countP g:=List.countP_mono_left (λp a=>h p (by simp[a]));rcases ZR.1 y with rfl|y
  ·rw[h1,h2];simp;omega
  have:=ih (λp a=>h p (by simp[a])) y;have c:=h x (by simp);cases hf:f x<;>cases hg:g x<;>simp_all<;>omega
def BQ (N:Nat):List (Nat × Nat):=(List.range (N+1)).flatMap λi=>(List.range (N+1)).map λj=>(i,j)
theorem Iw:(i,j)∈BQ N<->i<=N/\j<=N:=by
 simp[BQ];omega
def BP (N:Nat) (t:Nat->Nat->Bool):Nat:=(BQ N).countP λp=>!t p.1 p.2
def BD:Option Value->Bool
 |some (.bool false)=>true
 |_=>false
def opn (N:Nat) (rk:Nat->Nat) (w:World):Nat:=(BQ N).countP λp=>BD (w.cell? ⟨rk p.1,p.2,none⟩)
theorem QM.opn {base tb N:Nat}{rk:Nat->Nat}{t:Nat->Nat->Bool}{w:World} (h:QM base tb N rk t (N+1) w):opn N rk w=BP N t:=by
 unfold Go.Proofs.YtoaaklhpmhjhkaaGreat.opn BP;refine List.countP_congr (λp a=>?_);obtain⟨i,j⟩:=p;have b:=Iw.1 a;rw[(h.r i (by omega) j _ (YO _ (by omega))).1];cases t i j<;>simp[BD]
theorem CR {t:Nat->N_} (y:i<=N) (z:j<=N) (h:t i j=false):BP N (FD t i j)<BP N t:=by
 refine Gg (q:=(i,j)) (λp b a=>?_) (Iw.2 ⟨y,z⟩) (by simp[h]) (by simp[Uc]);rw[Uc]at a
 revert a
 cases t p.1 p.2<;>simp
def Eu:Value->Nat
 |.bool true=>1
 |_=>0
def Dk (N:Nat) (nx:Nat->Nat->Int) (bs:List Nat) (t:Nat->Nat->Bool) (i j:Nat):Prop:=∀a b,b<a->a<=N->(a<i\/(a=i/\b<j))->t a b=false->VH N nx bs t a b bs.length=false
theorem FY (pb N:Nat) (vd:Nat->Int) (nx:Nat->Nat->Int) (bs:List Nat) (w:World) (hN:N<=200) (hP:IE pb N vd nx bs w) (aA:∀(k b:Nat),bs[k]?=some b->b<256) (hl:bs.length<=256) (aB:∀i b,i<N->b<256->nx i b<N):
  Cp 29 #[pT pb] w λe w'=>∃rk t,e=.returned (.slice (some (a_ w.heap.size 0)) (N+1) (N+1))/\QM w.heap.size w.heap.size N rk t (N+1) w'/\Bl w w'/\Pu N vd nx bs t/\Dk N nx bs t (N+1) 0:=by
 have HP:Hid (∀w',Bl w w'->IE pb N vd nx bs w'):=λw' h=>hP.below h
 have Y:Hid (∀(w':World) (i:Nat),Bl w w'->i<=N->Cp 60 #[pT pb,I6 i] w' λe w''=>e=.returned (I6 (FP N vd i))/\w''=w'):=λw' i h hi=>Fi pb N vd nx bs i w' (by omega) (hP.below h) hi
 have al:Hid (∀(w':World) (t:Nat->N_) (i j:Nat),Bl w w'->TB (some (a_ w.heap.size 0)) N t w'->i<=N->j<=N->Cp 61 #[pT pb,.slice (some (a_ w.heap.size 0)) (N+1) (N+1),I6 i,I6 j] w' λe w''=>e=.returned (.bool (VH N nx bs t i j bs.length))/\w''=w'):=λw' t i j h hT h1 h2=>GK pb N vd nx bs _ _ t i j w' (by omega) (hP.below h) hT h1 h2 aA hl aB
 have ao:Hid (∀b∈bs,b<256):=λb hb=>by
  obtain⟨k,hk,e⟩:=List.getElem_of_mem hb;exact aA k b (by rw[Zd hk,e])
 have ap:=hyd aB;clear aA aB hl;obtain⟨va,vc,c0,_⟩:=hP.v;have ax:(N:Int)<=200:=by omega
 have I:(Instr.makeSlice 74 (I6 ((N:Int)+1)) (I6 ((N:Int)+1))).run Tryz.prog w=.ok (.slice (some (a_ w.heap.size 0)) (N+1) (N+1)) (w.alloc (.cells (Q0 (N+1)).toArray 78)):=Jp w (N+1) (by omega);obtain⟨W1,G⟩:=nam (w.alloc (.cells (Q0 (N+1)).toArray 78));rw[<-G]at I;have B1:Bl w W1:=by rw[G];exact box_bel _ _
 have O1:QM w.heap.size w.heap.size N (λ_=>0) (t0 N vd) 0 W1:=by rw[G];exact QM.first w N _ _
 have s1:w.heap.size+1<=W1.heap.size:=by rw[G];simp
 clear G hP;go_enter Tryz.func29,Tryz.ntmps29;go_wp2
 go_loopw [5] (λx w'=>∃(i:Nat) (rk:Nat->Nat),i<=N+1/\x=I6 i/\QM w.heap.size w.heap.size N rk (t0 N vd) i w'/\Bl w w'/\w.heap.size+1<=w'.heap.size) (λx _=>N+1-(intOf x).toNat)
 ·exact⟨0,_,by omega,rfl,O1,B1,s1⟩
 clear O1 B1 s1 I c0;obtain⟨i,rk,hi,rfl,O,B,sz⟩:=hrel;by_cases au:i<=N
 ·have av:(i:Int)<=N:=by omega
  have I:(Instr.makeSlice 78 (I6 ((N:Int)+1)) (I6 ((N:Int)+1))).run Tryz.prog wr=.ok (.slice (some (a_ wr.heap.size 0)) (N+1) (N+1)) (wr.alloc (.cells (bl (λ_=>false) (N+1)).toArray 4)):=Ou wr (N+1) (by omega);have L:=O.row (by omega) (by omega) (by omega) 4;obtain⟨W2,n⟩:=nam (wr.alloc (.cells (bl (λ_=>false) (N+1)).toArray 4));rw[<-n]at I L;have x2:Bl wr W2:=by rw[n];exact box_bel _ _
  have cz:W2.cell? (a_ w.heap.size i)=some (sN):=by rw[x2.cell (p:=(a_ w.heap.size i)) (by show w.heap.size<wr.heap.size;omega)];exact O.z i (Zg _) (by omega)
  have fz:W2.frozen? (a_ w.heap.size i)=false:=by rw[World.frozen?_of_block (w:=wr) (a:=(a_ w.heap.size i)) (x2.block _ (by show w.heap.size<wr.heap.size;omega))];exact O.f i (by omega)
  obtain⟨W3,H⟩:=nam (W2.setCell (a_ w.heap.size i) (.slice (some (a_ wr.heap.size 0)) (N+1) (N+1)));rw[<-H]at L;have B3:Bl w W3:=by rw[H];exact(B.trans (x2.mono (by omega))).setCell (p:=(a_ w.heap.size i)) (Zg _) _
  have s3:w.heap.size+1<=W3.heap.size:=by rw[H];have:=x2.size;simp;omega
  have O3:=L.congr (t':=C2 N vd i 0) (λa b _ _=>by simp[C2]);obtain⟨q,J⟩:∃q:Nat->Nat,q=λa=>if a=i then wr.heap.size else rk a:=⟨_,rfl⟩
  rw[<-J]at O3;have ak:q i=wr.heap.size:=by rw[J];simp
  have aw:=hyd ak;have af:=hyd H;clear O L n H J ak x2 B sz;go_wp2;rw[<-af.out];clear af cz fz I
  go_loopw [6] (λx w'=>∃k:Nat,k<=N+1/\x=I6 k/\QM w.heap.size w.heap.size N q (C2 N vd i k) (i+1) w'/\Bl w w'/\w.heap.size+1<=w'.heap.size) (λx _=>N+1-(intOf x).toNat)
  ·exact⟨0,by omega,rfl,O3,B3,s3⟩
  clear O3 B3 s3;obtain⟨k,hk,rfl,O,B,sz⟩:=hrel;by_cases ar:k<=N
  ·have⟨hkl',hi1⟩:(k:Int)<=N/\(i:Int)<N+1:=by omega
   have az:(k:Int)<N+1:=by omega
   have ct:=O.c i (by omega);obtain⟨cr,fr⟩:=O.r i (by omega) k _ (YO _ (by omega));obtain⟨R,Q⟩:=nam (q i);rw[<-Q]at ct cr fr;have L:=O.set (i:=i) (j:=k) (by omega) (by omega) (t0 N vd i k);have O3:=L.congr (t':=C2 N vd i (k+1)) (λa b _ _=>by
    simp only[C7,C2];by_cases e1:a=i
    ·by_cases e2:b=k
     ·simp[e1,e2]
     have:decide (b<k+1)=decide (b<k):=by simp;omega
     simp[e1,e2,this]
    simp[e1])
   rw[<-Q]at O3;have am:=hyd (Y.out wr.drew i B.drew au);have an:=hyd (Y.out wr.drew k B.drew ar);have ac:=hyd O3;have ai:w.heap.size<=R/\R≠w.heap.size:=by rw[Q];have:=O.ne i (by omega);exact⟨this.2,this.1⟩
   have HB:Hid (Bl w (wr.setCell (a_ R k) (.bool (t0 N vd i k)))):=B.setCell (p:=(a_ R k)) ai.1 _;have aq:(wr.setCell (a_ R k) (.bool (t0 N vd i k))).cell? (a_ w.heap.size i)=some (sL R (N+1) (N+1)):=by
    rw[World.cell?_setCell_far _ _ _ _ (by show R≠w.heap.size;exact ai.2)];exact ct
   clear O L O3 Q B;go_wp2;have aa:=ct;refine wp_region_held_drew (S:=λw'=>w'.cell? (a_ w.heap.size i)=some (sL R (N+1) (N+1))) (by kernel_rfl) aa (λhHeld=>?_);refine tQ 0 ?_
   refine tQ 1 ?_
   refine tQ 2 ?_
   refine tQ 3 ?_
   refine tQ 4 ?_
   refine tQ 5 ?_
   refine tQ 6 ?_
   refine tQ 8 ?_
   refine tQ 9 ?_
   refine wpAnyH_ready (rs:=[7]) (by kernel_rfl) (by simp) ?_;refine AllReadyH.cons (o:=?oZ7) ?hiZ7 (λK P=>?_) AllReadyH.nil
   case hiZ7=>simp only[gel];rfl
   go_simp;refine Calls.mono am.out ?_;rintro e w1 ⟨rfl,rfl⟩;go_wp2;refine P.out _ _ aa (λhHeld=>?_);clear P K
   (try simp only[psm])
   refine wpAnyH_ready (rs:=[10]) (by kernel_rfl) (by simp) ?_;refine AllReadyH.cons (o:=?oZ10) ?hiZ10 (λK P=>?_) AllReadyH.nil
   case hiZ10=>simp only[gel];rfl
   go_simp;refine Calls.mono an.out ?_;rintro e w1 ⟨rfl,rfl⟩;go_wp2;refine P.out _ _ aa (λhHeld=>?_);clear P K
   (try simp only[psm])
   refine tQ 11 ?_
   refine tQ 12 ?_
   refine wpAnyH_ready (rs:=[13]) (by kernel_rfl) (by simp) ?_;refine AllReadyH.cons (o:=?oZ13) ?hiZ13 (λK P=>?_) AllReadyH.nil
   case hiZ13=>simp only[gel];rfl
   go_simp;refine P.out _ _ aq (λhHeld=>?_);clear P K
   (try simp only[psm])
   refine wpAnyH_done (by kernel_rfl) ?_ _;have O4:QM w.heap.size w.heap.size N q (C2 N vd i (k+1)) (i+1) (wr.setCell (a_ R k) (.bool (t0 N vd i k))).drew:=ac.out.keep rfl (λ_ _=>rfl);have B4:=HB.out.drew;have s4:w.heap.size+1<=(wr.setCell (a_ R k) (.bool (t0 N vd i k))).drew.heap.size:=by
    show w.heap.size+1<=(wr.setCell (a_ R k) (.bool (t0 N vd i k))).heap.size;simpa using sz
   clear ac HB;go_wp2
   (try simp only[Act.put])
   go_roundw
   ·exact⟨k+1,by omega,by go_num,O4,B4,s4⟩
   simp[intOf];omega
  have⟨hge,hkN⟩:¬(k:Int)<=N/\k=N+1:=by omega
  subst hkN;have O4:=O.congr (t':=t0 N vd) (λa b _ hb=>by
   simp only[C2,hb,decide_true,Bool.true_and];by_cases e:a=i
   ·simp[e]
   simp[e])
  clear O;go_wp2;go_roundw
  ·exact⟨i+1,q,by omega,by go_num,O4,B,sz⟩
  simp[intOf];omega
 have⟨hge,hiN⟩:¬(i:Int)<=N/\i=N+1:=by omega
 subst hiN;have A0:=Pu.first N vd nx bs;clear Y;go_wp2
 go_loopw [7] (λx w'=>∃(t:Nat->N_) (M:Bool),x=.bool M/\QM w.heap.size w.heap.size N rk t (N+1) w'/\Pu N vd nx bs t/\(M=false->Dk N nx bs t (N+1) 0)/\Bl w w') (λx w'=>2*opn N rk w'+Eu x)
 ·exact⟨_,true,rfl,O,A0,(λh=>by cases h),B⟩
 clear O A0 B sz;obtain⟨t,M,rfl,O,A,F,B⟩:=hrel;cases M
 ·have s:=hyd (F rfl);clear F;go_wp2;go_ret;exact⟨rk,t,rfl,O,B,A,s.out⟩
 clear F;obtain⟨OP,ah⟩:=nam (opn N rk wr);have ae:=hyd ah;clear ah;go_wp2
 go_loopw [7,8] (λm x w'=>∃(t:Nat->N_) (M:Bool) (i:Nat),m=.bool M/\x=I6 i/\i<=N+1/\QM w.heap.size w.heap.size N rk t (N+1) w'/\Pu N vd nx bs t/\(M=false->Dk N nx bs t i 0)/\(opn N rk w'+(if M then 1 else 0)<=OP)/\Bl w w') (λ_ x _=>N+1-(intOf x).toNat)
 ·exact⟨t,false,0,rfl,rfl,by omega,O,A,(λ_ a b _ _ h=>by omega),by rw[ae.out];simp,B⟩
 clear O A B;obtain⟨t,M,i,rfl,rfl,hi,O,A,F,d,B⟩:=hrel;by_cases ab:i<=N
 ·have⟨hil',hi1⟩:(i:Int)<=N/\(i:Int)<N+1:=by omega
  have s:=hyd F;clear F;go_wp2
  go_loopw [7,9] (λm x w'=>∃(t:Nat->N_) (M:Bool) (j:Nat),m=.bool M/\x=I6 j/\j<=i/\QM w.heap.size w.heap.size N rk t (N+1) w'/\Pu N vd nx bs t/\(M=false->Dk N nx bs t i j)/\(opn N rk w'+(if M then 1 else 0)<=OP)/\Bl w w') (λ_ x _=>i-(intOf x).toNat)
  ·exact⟨t,M,0,rfl,rfl,by omega,O,A,s.out,d,B⟩
  clear O A B s d;obtain⟨t,M,j,rfl,rfl,hj,O,A,F,d,B⟩:=hrel;have s:=hyd F;clear F;by_cases ay:j<i
  ·have⟨hjl',hj1⟩:(j:Int)<i/\(j:Int)<N+1:=by omega
   have ci:=O.c i (by omega);have cj:=O.c j (by omega);obtain⟨cr,fr⟩:=O.r i (by omega) j _ (YO _ (by omega));obtain⟨cs,fs⟩:=O.r j (by omega) i _ (YO _ (by omega));have y:=hyd (al.out wr t i j B O.tb ab (by omega));have L:=(O.set (i:=i) (j:=j) (by omega) (by omega) true).set (i:=j) (j:=i) (by omega) (by omega) true;have B2:Bl w ((wr.setCell (a_ (rk i) j) (.bool true)).setCell (a_ (rk j) i) (.bool true)):=(B.setCell (p:=(a_ (rk i) j)) (O.ne i (by omega)).2 _).setCell (p:=(a_ (rk j) i)) (O.ne j (by omega)).2 _;have U:rk i≠rk j:=λe=>by have:=O.inj i j (by omega) (by omega) e;omega
   have V:rk i≠w.heap.size:=(O.ne i (by omega)).1;have C:(wr.setCell (a_ (rk i) j) (.bool true)).cell? (a_ w.heap.size j)=some (.slice (some (a_ (rk j) 0)) (N+1) (N+1)):=by
    rw[World.cell?_setCell_far _ _ _ _ (by show rk i≠w.heap.size;exact V)];exact cj
   have D:(wr.setCell (a_ (rk i) j) (.bool true)).cell? (a_ (rk j) i)=some (.bool (t j i)):=by
    rw[World.cell?_setCell_far _ _ _ _ (by show rk i≠rk j;exact U)];exact cs
   have E:(wr.setCell (a_ (rk i) j) (.bool true)).frozen? (a_ (rk j) i)=false:=by rw[World.frozen?_setCell];exact fs
   have l:=hyd L;have T:t i j=false->opn N rk ((wr.setCell (a_ (rk i) j) (.bool true)).setCell (a_ (rk j) i) (.bool true))<opn N rk wr:=λh=>by
    rw[l.out.opn,O.opn];exact CR ab (by omega) h
   have g:=hyd T;obtain⟨R,Q⟩:=nam (rk i);obtain⟨S,hS⟩:=nam (rk j);have HR:=hyd2 Q hS;rw[<-Q]at ci cr fr C D E B2 l g;rw[<-hS]at cj cs fs C D E B2 l g;obtain⟨W2,n⟩:=nam (wr.setCell (a_ R j) (.bool true));rw[<-n]at C D E B2 l g;have Z:=hyd n;have X:=hyd B2;clear L T Q hS U V n B2 cs fs;cases hX:t i j
   ·rw[hX]at cr;cases hPp:VH N nx bs t i j bs.length
    ·rw[hPp]at y;have u:Hid (M=false->Dk N nx bs t i (j+1)):=λh a b h1 h2 h3 h4=>by
      by_cases e:a=i/\b=j
      ·obtain⟨rfl,rfl⟩:=e;exact hPp
      exact s.out h a b h1 h2 (by omega) h4
     clear s l g X C D E Z hPp hX;go_wp2_with fail;refine y.out.mono ?_;rintro e w' ⟨rfl,rfl⟩;go_wp2;go_roundw
     ·exact⟨t,M,j+1,rfl,by go_num,by omega,O,A,u.out,d,B⟩
     simp[intOf];omega
    rw[hPp]at y;have A2:=A.put ab (show j<=N by omega) (by omega) ao.out ap.out hPp;have aj:=g.out hX;have W:opn N rk (W2.setCell (a_ S i) (.bool true))+1<=OP:=by omega
    have ag:=hyd W;clear s g hPp hX aj W A d;go_wp2_with fail;refine y.out.mono ?_;rintro e w' ⟨rfl,rfl⟩;go_wp2_with (first|(with_reducible show wpList _ _ _ ({ dst:=some 93,op:=Op.load _ _,type:=_,pos:=_,after:=_,guard:=_ }::_) _ _;refine X9.out ?_));refine⟨?_⟩;rw[<-Z.out];go_wp2;go_roundw
    ·exact⟨FD t i j,true,j+1,rfl,by go_num,by omega,l.out,A2,(λh=>by cases h),by simpa using ag.out,X.out⟩
    simp[intOf];omega
   rw[hX]at cr;have u:Hid (M=false->Dk N nx bs t i (j+1)):=λh a b h1 h2 h3 h4=>by
    by_cases e:a=i/\b=j
    ·obtain⟨rfl,rfl⟩:=e;rw[hX]at h4;cases h4
    exact s.out h a b h1 h2 (by omega) h4
   clear s l g X C D E Z y hX;go_wp2;go_roundw
   ·exact⟨t,M,j+1,rfl,by go_num,by omega,O,A,u.out,d,B⟩
   simp[intOf];omega
  have⟨hge,hji⟩:¬(j:Int)<i/\j=i:=by omega
  subst hji;have u:Hid (M=false->Dk N nx bs t (j+1) 0):=λh a b h1 h2 h3 h4=>s.out h a b h1 h2 (by omega) h4
  clear s;go_wp2;go_roundw
  ·exact⟨t,M,j+1,rfl,by go_num,by omega,O,A,u.out,d,B⟩
  simp[intOf];omega
 have⟨hge,hiN⟩:¬(i:Int)<=N/\i=N+1:=by omega
 subst hiN;have s:=hyd F;clear F;go_wp2;go_roundw
 ·exact⟨t,M,rfl,O,A,s.out,B⟩
 have:=ae.out;cases M<;>simp[Eu]at d ⊢<;>omega
end Go.Proofs.YtoaaklhpmhjhkaaGreat
