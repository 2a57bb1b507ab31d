import Derived.Laws.OwnMore
import Derived.Test.YtoaaklhpmhjhkabGreatC10
set_option maxRecDepth 100000
set_option maxHeartbeats 4000000
set_option linter.all false
namespace Go.Proofs.YtoaaklhpmhjhkabGreat
open Go.RowKit
open Bm
def Uy (xs:List Value):Nat->List Value->List Value
 |_,[]=>xs
 |o,v::vs=>Uy (xs.set o v) (o+1) vs
theorem Si:∀(vs:List Value) (xs:List Value) (o i:Nat),o+vs.length<=xs.length->(Uy xs o vs)[i]?=if o<=i/\i<o+vs.length then vs[i-o]? else xs[i]?
 |[],xs,o,i,_=>by rw[Uy,if_neg (by simp)]
 |v::vs,xs,o,i,h=>by
  simp only[List.length_cons]at h;rw[Uy,Si vs (xs.set o v) (o+1) i (by simp;omega)];simp only[List.length_cons];by_cases e:i=o
  ·subst e;rw[if_neg (by omega),if_pos (by omega),List.getElem?_set_self (by omega)];simp
  ·by_cases e2:o+1<=i/\i<o+1+vs.length
   ·rw[if_pos e2,if_pos (by omega),show i-o=(i-(o+1))+1 by omega];simp
   ·rw[if_neg e2,if_neg (by omega),List.getElem?_set_ne (fun x=>e x.symm)]
variable {base cap g n nb size:Nat}{F:N_}{bh hs:Nat->N_}{v vb vb2 vh vh2:Value}{w w' w1 w2:World}
theorem QX {e:TypeId}:∀(vs:List Value) (o:Nat) (xs:List Value) (w:World),w.ownsRow base e size (.slice (some ⟨g,0,none⟩) n cap) n xs->(w.setCells g o vs).ownsRow base e size (.slice (some ⟨g,0,none⟩) n cap) n (Uy xs o vs)
 |[],_,_,_,h=>h
 |v::vs,o,_,_,h=>QX vs (o+1) _ _ (h.stored o v).1
def Wh (n:Nat) (f:Nat->Nat->Bool):List (Nat->Bool):=(List.range n).map f
theorem X4 (n:Nat) (f:Nat->Nat->Bool):(Wh n f).length=n:=by simp[Wh]
theorem TL {p:Nat} (f:Nat->Nat->Bool) (h:p<n):(Wh n f)[p]?=some (f p):=by simp[Wh,h]
theorem NH (n:Nat) (f:Nat->Nat->Bool):Wh (n+1) f=Wh n f++[f n]:=by simp[Wh,List.range_succ]
theorem KM {f g:Nat->Nat->Bool} (h:∀p q,p<n->q<104->f p q=g p q):XH (Wh n f)=XH (Wh n g):=by
 unfold XH Wh;rw[List.flatMap_map,List.flatMap_map];have:∀p∈List.range n,bl (f p) 104=bl (g p) 104:=fun p hp=>YR (fun q hq=>h p q (by simpa using hp) hq)
 rw[List.flatMap_def,List.flatMap_def,List.map_congr_left this]
theorem KL {f g:Nat->Nat->Bool} (h:∀p q,p<n->q<256->f p q=g p q):WU (Wh n f)=WU (Wh n g):=by
 unfold WU Wh;rw[List.flatMap_map,List.flatMap_map];have:∀p∈List.range n,bl (f p) 256=bl (g p) 256:=fun p hp=>YR (fun q hq=>h p q (by simpa using hp) hq)
 rw[List.flatMap_def,List.flatMap_def,List.map_congr_left this]
theorem Ya.congr {f g:Nat->Nat->Bool} (h:Ya base v (Wh n f) w) (e:∀p q,p<n->q<104->f p q=g p q):Ya base v (Wh n g) w:=by
 unfold Ya at *;rw[X4]at *;rw[<-KM e];exact h
theorem Xp.congr {f g:Nat->Nat->Bool} (h:Xp base v (Wh n f) w) (e:∀p q,p<n->q<256->f p q=g p q):Xp base v (Wh n g) w:=by
 unfold Xp at *;rw[X4]at *;rw[<-KL e];exact h
theorem Pr (l:List (Nat->Bool)):(XH l).length=l.length*104:=by
 induction l with
 |nil=>rfl
 |cons f l ih=>rw[show XH (f::l)=bl f 104++XH l from by simp[XH],List.length_append,ih,Y7,List.length_cons];omega
theorem Ya.put {f:Nat->Nat->Bool} (h:Ya base (.slice (some ⟨g,0,none⟩) n cap) (Wh n f) w) (p o m:Nat) (G:Nat->Bool) (hp:p<n) (hm:o+m<=104):
  Ya base (.slice (some ⟨g,0,none⟩) n cap) (Wh n (fun i=>if i=p then XM (f p) o m G else f i)) (w.setCells g (p*104+o) (bl G m)):=by
 unfold Ya at *;rw[X4]at *;have h1:=QX (bl G m) (p*104+o) _ _ h;have hl:(XH (Wh n f)).length=n*104:=by rw[Pr,X4]
 have e:Uy (XH (Wh n f)) (p*104+o) (bl G m)=XH (Wh n (fun i=>if i=p then XM (f p) o m G else f i)):=by
  refine List.ext_getElem? (fun i=>?_);rw[Si _ _ _ _ (by rw[Y7,hl];omega),Y7];rcases Nat.lt_or_ge i (n*104)with hi|hi
  ·have hq:i/104<n:=Nat.div_lt_of_lt_mul (by omega);have hr:=Nat.mod_lt i (show 0<104 by omega);have hd:i/104*104+i%104=i:=by have:=Nat.div_add_mod i 104;omega
   have a1:=Vo (Wh n f) (i/104) (i%104) _ (TL f hq) hr;have a2:=Vo (Wh n (fun i=>if i=p then XM (f p) o m G else f i)) (i/104) (i%104) _ (TL _ hq) hr;rw[hd]at a1 a2;rw[a1,a2];by_cases e1:i/104=p
   ·rw[if_pos e1];unfold XM;by_cases e2:o<=i%104/\i%104<o+m
    ·rw[if_pos (by omega),if_pos e2,YK _ (by omega)];congr 3;omega
    ·rw[if_neg (by omega),if_neg e2,e1]
   ·rw[if_neg e1,if_neg ?_];intro h2;apply e1;have h3:p<=i/104:=(Nat.le_div_iff_mul_le (by omega)).2 (by omega);have h4:i/104<p+1:=Nat.div_lt_of_lt_mul (by omega);omega
  ·rw[if_neg (by omega),List.getElem?_eq_none (by rw[hl];exact hi),List.getElem?_eq_none (by rw[Pr,X4];exact hi)]
 rw[e]at h1;exact h1
theorem Ya.thereAt {f:Nat->Nat->Bool} (h:Ya base (.slice (some ⟨g,0,none⟩) n cap) (Wh n f) w) (p o m:Nat) (hp:p<n) (hm:o+m<=104):w.there g (p*104+o) m:=fun j hj=>by
 unfold Ya at h;rw[X4]at h;have h1:=h.cellAt (p*104+o+j) (by omega);have h2:=Vo (Wh n f) p (o+j) _ (TL f hp) (by omega);rw[show p*104+(o+j)=p*104+o+j by omega]at h2;rw[h2]at h1;exact⟨by rw[h1];rfl,h.frozenAt _⟩
theorem Ya.sub {f:Nat->Nat->Bool} (h:Ya base (.slice (some ⟨g,0,none⟩) n cap) (Wh n f) w) (p o m:Nat) (hp:p<n) (hm:o+m<=104):w.rangeAt g (p*104+o) (bl (fun i=>f p (o+i)) m):=fun j v hv=>by
 have hj:j<m:=by have:=(List.getElem?_eq_some_iff.1 hv).1;rw[Y7]at this;exact this
 rw[YK _ hj]at hv;cases hv;unfold Ya at h;rw[X4]at h;have h1:=h.cellAt (p*104+o+j) (by omega);have h2:=Vo (Wh n f) p (o+j) _ (TL f hp) (by omega);rw[show p*104+(o+j)=p*104+o+j by omega]at h2;rw[h2]at h1;exact h1
structure YH (nb base:Nat) (vh vb:Value) (n:Nat) (hs bh:Nat->Nat->Bool) (F:Nat->Bool) (w:World):Prop where
 c:TC nb (vh::vb::bl F 104) w
 h:Xp base vh (Wh n hs) w
 b:Ya base vb (Wh n bh) w
 ne:∀k,vh.ownBlock=some k->vb.ownBlock≠some k
theorem YH.below (h:YH nb base vh vb n hs bh F w) (hW:Below w.heap.size w w'):YH nb base vh vb n hs bh F w':=
 ⟨h.c.below hW,h.h.below hW,h.b.below hW,h.ne⟩
structure NF (nb:Nat) (vh vb vh' vb':Value) (w w':World):Prop where
 b:Below nb w w'
 k:∀k,k<w.heap.size->k≠nb->vh.ownBlock≠some k->vb.ownBlock≠some k->w'.heap[k]?=w.heap[k]?
 oh:∀k,vh'.ownBlock=some k->vh.ownBlock=some k\/w.heap.size<=k
 ob:∀k,vb'.ownBlock=some k->vb.ownBlock=some k\/w.heap.size<=k
theorem NF.of (vh vb:Value) {w w':World} (hb:nb<=w.heap.size) (h:Below w.heap.size w w'):NF nb vh vb vh vb w w':=⟨h.mono hb,fun k hk _ _ _=>h.block k hk,fun _ h=>Or.inl h,fun _ h=>Or.inl h⟩
theorem NF.trans {vh1 vb1:Value} (a:NF nb vh vb vh1 vb1 w w1) (b:NF nb vh1 vb1 vh2 vb2 w1 w2):NF nb vh vb vh2 vb2 w w2:=by
 have hs:=a.b.size;refine⟨a.b.trans b.b,fun k hk h1 h2 h3=>?_,fun k hk=>?_,fun k hk=>?_⟩
 ·rw[b.k k (by omega) h1 (fun e=>?_) (fun e=>?_),a.k k hk h1 h2 h3]
  ·rcases a.oh k e with h|h
   ·exact h2 h
   ·omega
  ·rcases a.ob k e with h|h
   ·exact h3 h
   ·omega
 ·rcases b.oh k hk with h|h
  ·exact a.oh k h
  ·exact Or.inr (by omega)
 ·rcases b.ob k hk with h|h
  ·exact a.ob k h
  ·exact Or.inr (by omega)
theorem YH.congr {hs' bh':Nat->Nat->Bool} (h:YH nb base vh vb n hs bh F w) (e1:∀p q,p<n->q<256->hs p q=hs' p q) (e2:∀p q,p<n->q<104->bh p q=bh' p q):YH nb base vh vb n hs' bh' F w:=
 ⟨h.c,h.h.congr e1,h.b.congr e2,h.ne⟩
theorem Ya.slc {f:Nat->Nat->Bool} (h:Ya base v (Wh n f) w) (hn:0<n):∃g cap,v=.slice (some ⟨g,0,none⟩) n cap:=by
 obtain⟨ad,cap,e,h1⟩:=h.at_;rw[X4]at e;obtain⟨g,e2,_⟩:=h1 0 (f 0) (TL f hn);subst e2;exact⟨g,cap,e⟩
structure LK (nb base:Nat) (vh vb:Value) (n:Nat) (hs bh:Nat->Nat->Bool) (F L G:Nat->Bool) (w W:World):Prop where
 n:YH nb base vh vb n hs bh F W
 l:TC w.heap.size (bl L 96) W
 g:TC (w.heap.size+1) (bl G 96) W
 f:NF nb vh vb vh vb w W
def R0 (bh:Nat->Nat->Bool) (L G:Nat->Bool) (m p q:Nat):Bool:=bh p q || (decide (p<m)&&L p&&decide (q<96)&&G q)
theorem QO (nb base:Nat) (vh vb:Value) (n:Nat) (hs bh:Nat->Nat->Bool) (F L G:Nat->Bool) (w:World) (hN:YH nb base vh vb n hs bh F w) (hnb:nb<base) (hn:n<=96):
  Calls Tryz.prog 105 #[.pointer (some ⟨nb,0,none⟩),.agg (bl L 96).toArray,.agg (bl G 96).toArray] w fun e w'=>e=.returned (.tuple #[])/\YH nb base vh vb n hs (R0 bh L G n) F w'/\NF nb vh vb vh vb w w':=by
 have hnw:=hN.c.lt;obtain⟨W,hW⟩:=nam ((w.alloc (.cells (bl L 96).toArray 59)).alloc (.cells (bl G 96).toArray 59));have S0:LK nb base vh vb n hs (R0 bh L G 0) F L G w W:=by
  have h1:(w.alloc (.cells (bl L 96).toArray 59)).heap.size=w.heap.size+1:=by simp
  have T1:=TC.boxed w (bl L 96) 59;have T2:=TC.boxed (w.alloc (.cells (bl L 96).toArray 59)) (bl G 96) 59;rw[h1,<-hW]at T2;have x1:=box_bel w (.cells (bl L 96).toArray 59);have x2:=box_bel (w.alloc (.cells (bl L 96).toArray 59)) (.cells (bl G 96).toArray 59);rw[<-hW]at x2;have B:Below w.heap.size w W:=x1.trans (x2.mono (by omega));exact⟨(hN.below B).congr (fun _ _ _ _=>rfl) (fun p q _ _=>by simp[R0]),T1.block (x2.block _ (by omega)),T2,NF.of vh vb (by omega) B⟩
 have Hvb:Hid (∀k,vb.ownBlock=some k->k<w.heap.size):=fun k hk=>(hN.b.blk k hk).2
 clear hN;go_enter Tryz.func105,Tryz.ntmps105;go_wp2_with fail;rw[<-hW];clear hW
 go_loopw [6] (fun x w'=>∃p:Nat,p<=n/\x=.int .i64 p/\LK nb base vh vb n hs (R0 bh L G p) F L G w w') (fun x _=>n-(intOf x).toNat)
 case atStart=>exact⟨0,by omega,rfl,S0⟩
 case round=>
  clear S0;obtain⟨p,hp,rfl,S⟩:=hrel;have c1:=(S.n.c 1 _ rfl).1;by_cases hlt:p<n
  ·obtain⟨g,cap,rfl⟩:=S.n.b.slc (by omega);have hlt':(p:Int)<n:=by omega
   have hp96:(p:Int)<96:=by omega
   have cl:=(S.l p _ (YK _ (by omega))).1;have hsu:∀i q,R0 bh L G (p+1) i q=(R0 bh L G p i q || (decide (i=p)&&L p&&decide (q<96)&&G q)):=fun i q=>by
    unfold R0;by_cases e:i=p
    ·subst e;simp
    ·by_cases e2:i<p
     ·simp[e,e2,show i<p+1 by omega]
     ·simp[e,e2,show ¬i<p+1 by omega]
   have Hsu:=hyd hsu;clear hsu;obtain⟨x,hx⟩:=nam (L p);rw[<-hx]at cl Hsu;have Hx:=hyd hx;clear hx;cases x
   ·have S2:LK nb base vh (.slice (some ⟨g,0,none⟩) n cap) n hs (R0 bh L G (p+1)) F L G w wr:=⟨S.n.congr (fun _ _ _ _=>rfl) (fun i q _ _=>by rw[Hsu.out];simp),S.l,S.g,S.f⟩;clear S;go_wp2_with fail;go_roundw
    case rel=>exact⟨p+1,by omega,by go_num,S2⟩
    case measure=>simp[intOf];omega
   have hra:=S.n.b.sub p 0 96 hlt (by omega);simp only[Nat.zero_add,Nat.add_zero]at hra;have hrg:=S.g.range;have HS1:Hid (LK nb base vh (.slice (some ⟨g,0,none⟩) n cap) n hs (R0 bh L G p) F L G w wr):=S;clear S;go_wp2_with fail;have HC:Hid (Calls Tryz.prog 69 #[.agg (bl (fun i=>R0 bh L G p p i) 96).toArray,.agg (bl G 96).toArray] wr.drew fun e w'=>e=.returned (.agg (bl (fun q=>R0 bh L G p p q || G q) 96).toArray)/\Below wr.drew.heap.size wr.drew w'):=XS _ _ _;have hS0:wr.drew.cell? ⟨nb,1,none⟩=some (.slice (some ⟨g,0,none⟩) n cap)/\wr.drew.rangeAt (w.heap.size+1) 0 (bl G 96):=⟨c1,hrg⟩;have hrd:wr.drew.rangeAt g (p*104) (bl (fun i=>R0 bh L G p p i) 96):=hra;refine wp_region_held_drew (S:=fun w'=>w'.cell? ⟨nb,1,none⟩=some (.slice (some ⟨g,0,none⟩) n cap)/\w'.rangeAt (w.heap.size+1) 0 (bl G 96)) (by kernel_rfl) hS0 (fun hHeld=>?_);clear hra hrg c1 cl;refine wpAnyH_take (i:=0) (oi:=?o0) (v:=?v0) ?hi0 ?hs0 ?hf0 ?hr0 ?hQ0 (Or.inl ⟨?hw0,?hy0⟩) ?hS0 ?rest0
   case hi0=>simp only[List.getElem?_toArray,List.getElem?_cons_zero];rfl
   case hs0=>kernel_rfl
   case hf0=>kernel_rfl
   case hr0=>kernel_rfl
   case hQ0=>exact fun _ _ _ h=>h
   case hS0=>assumption
   case hw0=>rfl
   case hy0=>intro w' hSw;(try dsimp only at hSw);go_simp;first|done|with_reducible rfl
   (try simp only[psm])
   refine wpAnyH_take (i:=1) (by simp only[gel];rfl) (by kernel_rfl) (by kernel_rfl) (by kernel_rfl) (by exact fun _ _ _ h=>h) (Or.inl ⟨by rfl,by intro w' hSw;(try dsimp only at hSw);go_simp;first|done|with_reducible rfl⟩) (by assumption) ?_
   (try simp only[psm])
   refine wpAnyH_take (i:=2) (by simp only[gel];rfl) (by kernel_rfl) (by kernel_rfl) (by kernel_rfl) (by exact fun _ _ _ h=>h) (Or.inl ⟨by rfl,by intro w' hSw;(try dsimp only at hSw);go_simp;first|done|with_reducible rfl⟩) (by assumption) ?_
   (try simp only[psm])
   refine wpAnyH_take (i:=3) (by simp only[gel];rfl) (by kernel_rfl) (by kernel_rfl) (by kernel_rfl) (by exact fun _ _ _ h=>h) (Or.inl ⟨by rfl,by intro w' hSw;(try dsimp only at hSw);go_simp;first|done|with_reducible rfl⟩) (by assumption) ?_
   (try simp only[psm])
   refine wpAnyH_take (i:=4) (by simp only[gel];rfl) (by kernel_rfl) (by kernel_rfl) (by kernel_rfl) (by exact fun _ _ _ h=>h) (Or.inl ⟨by rfl,by intro w' hSw;(try dsimp only at hSw);go_simp;first|done|with_reducible rfl⟩) (by assumption) ?_
   (try simp only[psm])
   refine wpAnyH_take (i:=5) (by simp only[gel];rfl) (by kernel_rfl) (by kernel_rfl) (by kernel_rfl) (by exact fun _ _ _ h=>h) (Or.inl ⟨by rfl,by intro w' hSw;(try dsimp only at hSw);go_simp;first|done|with_reducible rfl⟩) (by assumption) ?_
   (try simp only[psm])
   refine wpAnyH_take (i:=6) (by simp only[gel];rfl) (by kernel_rfl) (by kernel_rfl) (by kernel_rfl) (by exact fun _ _ _ h=>h) (Or.inl ⟨by rfl,by intro w' hSw;(try dsimp only at hSw);go_simp;first|done|with_reducible rfl⟩) (by assumption) ?_
   (try simp only[psm])
   refine wpAnyH_take (i:=7) (by simp only[gel];rfl) (by kernel_rfl) (by kernel_rfl) (by kernel_rfl) (by exact fun _ _ _ h=>h) (Or.inl ⟨by rfl,by intro w' hSw;(try dsimp only at hSw);go_simp;first|done|with_reducible rfl⟩) (by assumption) ?_
   (try simp only[psm])
   refine wpAnyH_take (i:=8) (by simp only[gel];rfl) (by kernel_rfl) (by kernel_rfl) (by kernel_rfl) (by exact fun _ _ _ h=>h) (Or.inl ⟨by rfl,by intro w' hSw;(try dsimp only at hSw);go_simp;first|done|with_reducible rfl⟩) (by assumption) ?_
   (try simp only[psm])
   refine wpAnyH_take (i:=9) (by simp only[gel];rfl) (by kernel_rfl) (by kernel_rfl) (by kernel_rfl) (by exact fun _ _ _ h=>h) (Or.inl ⟨by rfl,by intro w' hSw;(try dsimp only at hSw);go_simp;first|done|with_reducible rfl⟩) (by assumption) ?_
   (try simp only[psm])
   refine wpAnyH_take (i:=10) (by simp only[gel];rfl) (by kernel_rfl) (by kernel_rfl) (by kernel_rfl) (by exact fun _ _ _ h=>h) (Or.inl ⟨by rfl,by intro w' hSw;(try dsimp only at hSw);go_simp;first|done|with_reducible rfl⟩) (by assumption) ?_
   (try simp only[psm])
   refine wpAnyH_take (i:=11) (by simp only[gel];rfl) (by kernel_rfl) (by kernel_rfl) (by kernel_rfl) (by exact fun _ _ _ h=>h) (Or.inl ⟨by rfl,by intro w' hSw;(try dsimp only at hSw);go_simp;first|done|with_reducible rfl⟩) (by assumption) ?_
   (try simp only[psm])
   refine wpAnyH_take (i:=13) (oi:=?o13) (v:=.agg (bl G 96).toArray) ?hi13 ?hs13 ?hf13 ?hr13 ?hQ13 (Or.inl ⟨?hw13,?hy13⟩) ?hS13 ?rest13
   case hi13=>simp only[gel];rfl
   case hs13=>kernel_rfl
   case hf13=>kernel_rfl
   case hr13=>kernel_rfl
   case hQ13=>exact fun _ _ _ h=>h
   case hS13=>assumption
   case hw13=>rfl
   case hy13=>exact fun w' hSw=>X7 59 _ rfl (w.heap.size+1) 0 rfl (bl G 96) _ hSw.2 u_b rfl (by rw[Y7];exact Y2)
   (try simp only[psm])
   refine wpAnyH_ready (rs:=[12]) (by kernel_rfl) (by simp) ?_;refine AllReadyH.cons (o:=?o12) ?hi12 (fun K hK=>?_) AllReadyH.nil
   case hi12=>simp only[gel];rfl
   rw[if_pos (by rfl)];unfold Oper.wp;rw[X7 59 _ rfl g (p*104) rfl (bl (fun i=>R0 bh L G p p i) 96) _ hrd u_b rfl (by rw[Y7];exact Y2)];refine hK.out _ _ hHeld (fun hHeld=>?_);clear hK K
   (try simp only[psm])
   refine wpAnyH_ready (rs:=[14]) (by kernel_rfl) (by simp) ?_;refine AllReadyH.cons (o:=?o14) ?hi14 (fun K hK=>?_) AllReadyH.nil
   case hi14=>simp only[gel];rfl
   go_simp;refine Calls.mono HC.out ?_;rintro e w2 ⟨rfl,hW2⟩;have hBd:Below wr.heap.size wr w2:=(Below.refl _ _).drew.trans hW2;have S1:=HS1.out;have S2:LK nb base vh (.slice (some ⟨g,0,none⟩) n cap) n hs (R0 bh L G p) F L G w w2:=
    ⟨S1.n.below hBd,S1.l.block (hBd.block _ S1.l.ltB),S1.g.block (hBd.block _ S1.g.ltB),S1.f.trans (NF.of _ _ (by have:=S1.n.c.lt;omega) hBd)⟩
   obtain⟨Q,hQ⟩:=nam (bl (fun q=>R0 bh L G p p q || G q) 96);have hQl:Q.length=96:=by rw[hQ];exact Y7 _ _
   have hth:=S2.n.b.thereAt p 0 96 hlt (by omega);have hgr:=Y6 g Q (p*104) w2;have hgb:=S2.n.b.blk g rfl;have hne:=S2.n.ne;have S3:LK nb base vh (.slice (some ⟨g,0,none⟩) n cap) n hs (R0 bh L G (p+1)) F L G w (w2.setCells g (p*104) Q):=by
    have h1:=S2.n.b.put p 0 96 (fun q=>R0 bh L G p p q || G q) hlt (by omega);rw[<-hQ,Nat.add_zero]at h1;have hgw:=Hvb.out g rfl;refine⟨⟨S2.n.c.block (hgr.block _ S2.n.c.lt (fun e=>by have:=Option.some.inj e;omega)),S2.n.h.keep (fun k hk=>hgr.block k (S2.n.h.blk k hk).2 (fun e=>by have:=Option.some.inj e;subst this;exact hne k hk rfl)),h1.congr (fun i q _ hq=>?_),hne⟩,S2.l.block (hgr.block _ S2.l.ltB (fun e=>by have:=Option.some.inj e;omega)),S2.g.block (hgr.block _ S2.g.ltB (fun e=>by have:=Option.some.inj e;omega)),S2.f.trans ⟨(Below.refl _ _).grown hgr (by have:=S2.n.c.lt;omega) (fun q hq=>by cases hq;omega),fun k hk _ _ h3=>hgr.block k hk (fun e=>h3 e.symm),fun _ h=>Or.inl h,fun _ h=>Or.inl h⟩⟩;rw[Hsu.out];by_cases e:i=p
    ·subst e;simp only[if_true,decide_true,Bool.true_and];unfold XM;by_cases e2:q<96
     ·rw[if_pos (by omega)];simp[e2]
     ·rw[if_neg (by omega)];simp[e2]
    ·simp[e]
   have HO1:Hid (Q.toArray.all (·.oneCell')=true):=by show _=true;rw[hQ];exact YO _ _
   have HQl:=hyd hQl;have hS2:w2.cell? ⟨nb,1,none⟩=some (.slice (some ⟨g,0,none⟩) n cap)/\w2.rangeAt (w.heap.size+1) 0 (bl G 96):=⟨(S2.n.c 1 _ rfl).1,S2.g.range⟩;have hS3:(w2.setCells g (p*104) Q).cell? ⟨nb,1,none⟩=some (.slice (some ⟨g,0,none⟩) n cap)/\(w2.setCells g (p*104) Q).rangeAt (w.heap.size+1) 0 (bl G 96):=⟨(S3.n.c 1 _ rfl).1,S3.g.range⟩;rw[<-hQ];rw[Nat.add_zero]at hth;clear HS1 HC hW2 S1 S2 hQ hQl hgr Hsu hBd hne hgb;refine hK.out _ _ hS2 (fun hHeld=>?_);clear hK K
   (try simp only[psm])
   refine wpAnyH_take (i:=15) (by simp only[gel];rfl) (by kernel_rfl) (by kernel_rfl) (by kernel_rfl) (by exact fun _ _ _ h=>h) (Or.inl ⟨by rfl,by intro w' hSw;(try dsimp only at hSw);go_simp;first|done|with_reducible rfl⟩) (by assumption) ?_
   (try simp only[psm])
   refine wpAnyH_take (i:=16) (by simp only[gel];rfl) (by kernel_rfl) (by kernel_rfl) (by kernel_rfl) (by exact fun _ _ _ h=>h) (Or.inl ⟨by rfl,by intro w' hSw;(try dsimp only at hSw);go_simp;first|done|with_reducible rfl⟩) (by assumption) ?_
   (try simp only[psm])
   refine wpAnyH_ready (rs:=[17]) (by kernel_rfl) (by simp) ?_;refine AllReadyH.cons (o:=?o17) ?hi17 (fun K hK=>?_) AllReadyH.nil
   case hi17=>simp only[gel];rfl
   rw[if_pos (by rfl)];refine wp_store_mid 59 _ _ rfl g (p*104) Q.toArray rfl rfl (by simpa[HQl.out]using hth) (by simpa[HQl.out]using Y2) HO1.out ?_;rw[List.toList_toArray];refine hK.out _ _ hS3 (fun hHeld=>?_);clear hK K;refine wpAnyH_done (by kernel_rfl) ?_ _;go_wp2_with fail;go_roundw
   case rel=>exact⟨p+1,by omega,by go_num,S3⟩
   case measure=>simp[intOf];omega
  ·have hge:¬(p:Int)<n:=by omega
   have hpn:p=n:=by omega
   subst hpn;obtain⟨ad,cap,e1,_⟩:=S.n.b.at_;rw[X4]at e1;rw[e1]at c1;have SN:=S.n;have SF:=S.f;clear S e1;go_wp2_with fail;go_end0;exact⟨rfl,SN,SF⟩
end Go.Proofs.YtoaaklhpmhjhkabGreat
