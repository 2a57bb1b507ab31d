import Derived.Laws.OwnMore
import Derived.Test.YtoaaklhpmhjhkaaGreatC08
import Derived.Test.YtoaaklhpmhjhkaaGreatC10
set_option maxRecDepth 100000
set_option maxHeartbeats 4000000
set_option linter.all false
namespace Go.Proofs.YtoaaklhpmhjhkaaGreat
open Go.Proofs.Tryz
open Go.RowKit
open Bm
def Sn(xs:List Value):Nat->List Value->List Value
 |_,[]=>xs
 |o,v::vs=>Sn (xs.set o v) (o+1) vs
def Ph:∀(vs:List Value) (xs:List Value) (o i:Nat),o+vs.length<=xs.length->(Sn xs o vs)[i]?=if o<=i/\i<o+vs.length then vs[i-o]? else xs[i]?
 |[],xs,o,i,_=>by rw[Sn,dG Qs]
 |v::vs,xs,o,i,h=>by
  simp only[dZ]at h;rw[Sn,Ph vs (xs.set o v) (o+1) i Qp];simp only[dZ];by_cases e:i=o
  .subst e;rw[g_,p_,fx Qo];simp
  by_cases e2:o+1<=i/\i<o+1+vs.length
  .rw[dF e2,p_,show i-o=(i-(o+1))+1 by omega];simp
  rw[dG e2,g_,fA (λx=>e x.symm)]
variable {a:Act}{ops:Array Oper}{Q:Exit->Act->World->Prop}{rest:List Oper}{B N b base cap g i j n nb p size:Nat}{F:N_}{bh hs:Nat->N_}{nx:Nat->Nat->Int}{o op:Oper}{v vb vb' vb2 vh vh' vh2:Value}{W W' w w' w1 w2:World}
def Nc{e:TypeId}:∀(vs:List Value) (o:Nat) (xs:List Value) (w:World),w.ownsRow base e size (sL g n cap) n xs->(w.setCells g o vs).ownsRow base e size (sL g n cap) n (Sn xs o vs)
 |[],_,_,_,h=>h
 |v::vs,o,_,_,h=>Nc vs (o+1) _ _ (h.stored o v).1
def UZ(n:Nat)(f:Nat->Nat->Bool):List (Nat->Bool):=(List.range n).map f
def XB(n:Nat)(f:Nat->N_):(UZ n f).length=n:=by simp[UZ]
def Rm(f:Nat->N_)(h:p<n):(UZ n f)[p]?=some (f p):=by simp[UZ,h]
def IV(n:Nat)(f:Nat->N_):UZ (n+1) f=UZ n f++[f n]:=by simp[UZ,ZT]
def Eg{f g:Nat->N_}(h:∀p q,p<n->q<104->f p q=g p q):Xc (UZ n f)=Xc (UZ n g):=by
 unfold Xc UZ;rw[gm,gm];have:∀p∈List.range n,bl (f p) 104=bl (g p) 104:=λp a=>YW (λq b=>h p q (by simpa using a) b)
 rw[gn,gn,ZO this]
def Ef{f g:Nat->N_}(h:∀p q,p<n->q<256->f p q=g p q):VX (UZ n f)=VX (UZ n g):=by
 unfold VX UZ;rw[gm,gm];have:∀p∈List.range n,bl (f p) 256=bl (g p) 256:=λp a=>YW (λq b=>h p q (by simpa using a) b)
 rw[gn,gn,ZO this]
def XL.congr{f g:Nat->N_}(h:XL base v (UZ n f) w)(e:∀p q,p<n->q<104->f p q=g p q):XL base v (UZ n g) w:=by
 unfold XL at *;rw[XB]at *;rw[<-Eg e];exact h
def Wu.congr{f g:Nat->N_}(h:Wu base v (UZ n f) w)(e:∀p q,p<n->q<256->f p q=g p q):Wu base v (UZ n g) w:=by
 unfold Wu at *;rw[XB]at *;rw[<-Ef e];exact h
def K8(l:List (N_)):(Xc l).length=l.length*104:=by
 induction l with
 |nil=>rfl
 |cons f l ih=>rw[show Xc (f::l)=bl f 104++Xc l from by simp[Xc],Zl,ih,Y9,dZ];omega
def XL.put{f:Nat->N_}(h:XL base (sL g n cap) (UZ n f) w)(p o m:Nat)(G:N_)(H:p<n)(z:o+m<=104):
  XL base (sL g n cap) (UZ n (λi=>if i=p then Xi (f p) o m G else f i)) (w.setCells g (p*104+o) (bl G m)):=by
 unfold XL at *;rw[XB]at *;have h1:=Nc (bl G m) (p*104+o) _ _ h;have d:(Xc (UZ n f)).length=n*104:=by rw[K8,XB]
 have e:Sn (Xc (UZ n f)) (p*104+o) (bl G m)=Xc (UZ n (λi=>if i=p then Xi (f p) o m G else f i)):=by
  refine fG (λi=>?_);rw[Ph _ _ _ _ (by rw[Y9,d];omega),Y9];rcases ZD i (n*104)with hi|hi
  .have j:i/104<n:=Nat.div_lt_of_lt_mul Qo;have k:=Nat.mod_lt i (show 0<104 by omega);have l:i/104*104+i%104=i:=by have:=Nat.div_add_mod i 104;omega
   have b:=TJ (UZ n f) (i/104) (i%104) _ (Rm f j) k;have c:=TJ (UZ n (λi=>if i=p then Xi (f p) o m G else f i)) (i/104) (i%104) _ (Rm _ j) k;rw[l]at b c;rw[b,c];by_cases a:i/104=p
   .rw[dF a];unfold Xi;by_cases e2:o<=i%104/\i%104<o+m
    .rw[p_,dF e2,YO _ Qo];congr 3;omega
    rw[g_,dG e2,a]
   rw[dG a,dG ?_];intro h2;apply a;have h3:p<=i/104:=(Nat.le_div_iff_mul_le Qo).2 Qo;have q:i/104<p+1:=Nat.div_lt_of_lt_mul Qo;omega
  rw[g_,ZB (by rw[d];exact hi),ZB (by rw[K8,XB];exact hi)]
 rw[e]at h1;exact h1
def XL.thereAt{f:Nat->N_}(h:XL base (sL g n cap) (UZ n f) w)(p o m:Nat)(z:p<n)(H:o+m<=104):w.there g (p*104+o) m:=λj a=>by
 unfold XL at h;rw[XB]at h;have h1:=h.cellAt (p*104+o+j) Qo;have h2:=TJ (UZ n f) p (o+j) _ (Rm f z) Qo;rw[show p*104+(o+j)=p*104+o+j by omega]at h2;rw[h2]at h1;exact⟨by rw[h1];rfl,h.frozenAt _⟩
def XL.sub{f:Nat->N_}(h:XL base (sL g n cap) (UZ n f) w)(p o m:Nat)(z:p<n)(H:o+m<=104):w.rangeAt g (p*104+o) (bl (λi=>f p (o+i)) m):=λj v a=>by
 have b:j<m:=by have:=(Zi.1 a).1;rw[Y9]at this;exact this
 rw[YO _ b]at a;cases a;unfold XL at h;rw[XB]at h;have h1:=h.cellAt (p*104+o+j) Qo;have h2:=TJ (UZ n f) p (o+j) _ (Rm f z) Qo;rw[show p*104+(o+j)=p*104+o+j by omega]at h2;rw[h2]at h1;exact h1
structure YB (nb base:Nat) (vh vb:Value) (n:Nat) (hs bh:Nat->Nat->Bool) (F:Nat->Bool) (w:World):Prop where
 c:TC nb (vh::vb::bl F 104) w
 h:Wu base vh (UZ n hs) w
 b:XL base vb (UZ n bh) w
 ne:∀k,vh.ownBlock=some k->vb.ownBlock≠some k
def YB.below(h:YB nb base vh vb n hs bh F w)(z:Bl w w'):YB nb base vh vb n hs bh F w':=
 ⟨h.c.below z,h.h.below z,h.b.below z,h.ne⟩
structure NF (nb:Nat) (vh vb vh' vb':Value) (w w':World):Prop where
 b:Below nb w w'
 k:∀k,k<w.heap.size->k≠nb->vh.ownBlock≠some k->vb.ownBlock≠some k->w'.heap[k]?=w.heap[k]?
 oh:∀k,vh'.ownBlock=some k->vh.ownBlock=some k\/w.heap.size<=k
 ob:∀k,vb'.ownBlock=some k->vb.ownBlock=some k\/w.heap.size<=k
def NF.of(vh vb:Value){w w':World}(z:nb<=w.heap.size)(h:Bl w w'):NF nb vh vb vh vb w w':=⟨h.mono z,λk a _ _ _=>h.block k a,λ_ h=>Or.inl h,λ_ h=>Or.inl h⟩
def NF.trans{H z:Value}(a:NF nb vh vb H z w w1)(b:NF nb H z vh2 vb2 w1 w2):NF nb vh vb vh2 vb2 w w2:=by
 have hs:=a.b.size;refine⟨a.b.trans b.b,λk c h1 h2 h3=>?_,λk c=>?_,λk c=>?_⟩
 .rw[b.k k Qo h1 (λe=>?_) (λe=>?_),a.k k c h1 h2 h3]
  .rcases a.oh k e with h|h
   .exact h2 h
   omega
  rcases a.ob k e with h|h
  .exact h3 h
  omega
 .rcases b.oh k c with h|h
  .exact a.oh k h
  exact Or.inr Qo
 rcases b.ob k c with h|h
 .exact a.ob k h
 exact Or.inr Qo
def YB.congr{hs' bh':Nat->N_}(h:YB nb base vh vb n hs bh F w)(z:∀p q,p<n->q<256->hs p q=hs' p q)(e2:∀p q,p<n->q<104->bh p q=bh' p q):YB nb base vh vb n hs' bh' F w:=
 ⟨h.c,h.h.congr z,h.b.congr e2,h.ne⟩
def XL.slc{f:Nat->N_}(h:XL base v (UZ n f) w)(z:0<n):∃g cap,v=sL g n cap:=by
 let⟨ad,cap,e,h1⟩:=h.at_;rw[XB]at e;let⟨g,e2,_⟩:=h1 0 (f 0) (Rm f z);subst e2;exact⟨g,cap,e⟩
structure LK (nb base:Nat) (vh vb:Value) (n:Nat) (hs bh:Nat->Nat->Bool) (F L G:Nat->Bool) (w W:World):Prop where
 n:YB nb base vh vb n hs bh F W
 l:TC w.heap.size (bl L 96) W
 g:TC (w.heap.size+1) (bl G 96) W
 f:NF nb vh vb vh vb w W
def OY(bh:Nat->Nat->Bool)(L G:Nat->Bool)(m p q:Nat):Bool:=bh p q || (decide (p<m)&&L p&&decide (q<96)&&G q)
def MY(nb base:Nat)(vh vb:Value)(n:Nat)(hs bh:Nat->Nat->Bool)(F L G:Nat->Bool)(w:World)(hN:YB nb base vh vb n hs bh F w)(hnb:nb<base)(hn:n<=96):
  Cp 221 #[.pointer (some ⟨nb,0,none⟩),.agg (bl L 96).toArray,.agg (bl G 96).toArray] w λe w'=>e=.returned (.tuple #[])/\YB nb base vh vb n hs (OY bh L G n) F w'/\NF nb vh vb vh vb w w':=by
 have af:=hN.c.lt;obtain⟨W,J⟩:=nam ((w.alloc (.cells (bl L 96).toArray 132)).alloc (.cells (bl G 96).toArray 132));have S0:LK nb base vh vb n hs (OY bh L G 0) F L G w W:=by
  have h1:(w.alloc (.cells (bl L 96).toArray 132)).heap.size=w.heap.size+1:=by simp
  have T1:=TC.boxed w (bl L 96) 132;have T2:=TC.boxed (w.alloc (.cells (bl L 96).toArray 132)) (bl G 96) 132;rw[h1,<-J]at T2;have x1:=box_bel w (.cells (bl L 96).toArray 132);have x2:=box_bel (w.alloc (.cells (bl L 96).toArray 132)) (.cells (bl G 96).toArray 132);rw[<-J]at x2;have B:Bl w W:=x1.trans (x2.mono Qo);exact⟨(hN.below B).congr (λ_ _ _ _=>rfl) (λp q _ _=>by simp[OY]),T1.block (x2.block _ Qo),T2,NF.of vh vb Qo B⟩
 have N:Hid (∀k,vb.ownBlock=some k->k<w.heap.size):=λk u=>(hN.b.blk k u).2
 clear hN;go_enter func221,ntmps221;go_wp2_with fail;rw[<-J];clear J
 go_loopw [6] (λx w'=>∃p:Nat,p<=n/\x=.int .i64 p/\LK nb base vh vb n hs (OY bh L G p) F L G w w') (λx _=>n-(intOf x).toNat)
 .exact⟨0,Qo,rfl,S0⟩
 clear S0;obtain⟨p,hp,rfl,S⟩:=hrel;have c1:=(S.n.c 1 _ rfl).1;by_cases r:p<n
 .obtain⟨g,cap,rfl⟩:=S.n.b.slc Qo;have aa:(p:Int)<n:=Qo
  have ab:(p:Int)<96:=Qo
  have cl:=(S.l p _ (YO _ Qo)).1;have H:∀i q,OY bh L G (p+1) i q=(OY bh L G p i q || (decide (i=p)&&L p&&decide (q<96)&&G q)):=λi q=>by
   unfold OY;by_cases e:i=p
   .subst e;simp
   by_cases e2:i<p
   .simp[e,e2,show i<p+1 by omega]
   simp[e,e2,show ¬i<p+1 by omega]
  have j:=hyd H;clear H;obtain⟨x,hx⟩:=nam (L p);rw[<-hx]at cl j;have Hx:=hyd hx;clear hx;cases x
  .have S2:LK nb base vh (.slice (some ⟨g,0,none⟩) n cap) n hs (OY bh L G (p+1)) F L G w wr:=⟨S.n.congr (λ_ _ _ _=>rfl) (λi q _ _=>by rw[j.out];simp),S.l,S.g,S.f⟩;clear S;go_wp2_with fail;go_roundw
   .exact⟨p+1,Qo,by go_num,S2⟩
   simp[intOf];omega
  have t:=S.n.b.sub p 0 96 r Qo;simp only[Zn,eP]at t;have E:=S.g.range;have z:Hid (LK nb base vh (.slice (some ⟨g,0,none⟩) n cap) n hs (OY bh L G p) F L G w wr):=S;clear S;go_wp2_with fail;have HC:Hid (Cp 174 #[.agg (bl (λi=>OY bh L G p p i) 96).toArray,.agg (bl G 96).toArray] wr.drew λe w'=>e=.returned (.agg (bl (λq=>OY bh L G p p q || G q) 96).toArray)/\Below wr.drew.heap.size wr.drew w'):=Xn _ _ _;have R:wr.drew.cell? ⟨nb,1,none⟩=some (.slice (some ⟨g,0,none⟩) n cap)/\wr.drew.rangeAt (w.heap.size+1) 0 (bl G 96):=⟨c1,E⟩;have Z:wr.drew.rangeAt g (p*104) (bl (λi=>OY bh L G p p i) 96):=t;refine fK (S:=λw'=>w'.cell? ⟨nb,1,none⟩=some (.slice (some ⟨g,0,none⟩) n cap)/\w'.rangeAt (w.heap.size+1) 0 (bl G 96)) (by kernel_rfl) R (λhHeld=>?_);clear t E c1 cl;refine tQ 0 ?_
  refine tQ 1 ?_
  refine tQ 2 ?_
  refine tQ 3 ?_
  refine tQ 4 ?_
  refine tQ 5 ?_
  refine tQ 6 ?_
  refine tQ 7 ?_
  refine tQ 8 ?_
  refine tQ 9 ?_
  refine tQ 10 ?_
  refine tQ 11 ?_
  refine wpAnyH_take (i:=13) (oi:=?o13) (v:=.agg (bl G 96).toArray) ?hi13 ?hs13 ?hf13 ?hr13 ?hQ13 (Or.inl ⟨?hw13,?hy13⟩) ?hS13 ?rest13
  case hi13=>simp only[gel];rfl
  case hs13=>kernel_rfl
  case hf13=>kernel_rfl
  case hr13=>kernel_rfl
  case hQ13=>exact λ_ _ _ h=>h
  case hS13=>assumption
  case hw13=>rfl
  case hy13=>exact λw' V=>XJ 132 _ rfl (w.heap.size+1) 0 rfl (bl G 96) _ V.2 u_a rfl (by rw[Y9];exact Y0)
  (try simp only[psm])
  refine fL (rs:=[12]) (by kernel_rfl) (by simp) ?_;refine fM (o:=?o12) ?hi12 (λK m=>?_) fN
  case hi12=>simp only[gel];rfl
  rw[dF (by rfl)];unfold Oper.wp;rw[XJ 132 _ rfl g (p*104) rfl (bl (λi=>OY bh L G p p i) 96) _ Z u_a rfl (by rw[Y9];exact Y0)];refine m.out _ _ hHeld (λhHeld=>?_);clear m K
  (try simp only[psm])
  refine fL (rs:=[14]) (by kernel_rfl) (by simp) ?_;refine fM (o:=?o14) ?hi14 (λK m=>?_) fN
  case hi14=>simp only[gel];rfl
  go_simp;refine ft HC ?_;rintro e w2 ⟨rfl,D⟩;have d:Bl wr w2:=(Zk _ _).drew.trans D;have S1:=z.out;have S2:LK nb base vh (.slice (some ⟨g,0,none⟩) n cap) n hs (OY bh L G p) F L G w w2:=
   ⟨S1.n.below d,S1.l.block (d.block _ S1.l.ltB),S1.g.block (d.block _ S1.g.ltB),S1.f.trans (NF.of _ _ (by have:=S1.n.c.lt;omega) d)⟩
  obtain⟨Q,A⟩:=nam (bl (λq=>OY bh L G p p q || G q) 96);have C:Q.length=96:=by rw[A];exact Y9 _ _
  have I:=S2.n.b.thereAt p 0 96 r Qo;have a:=Y8 g Q (p*104) w2;have X:=S2.n.b.blk g rfl;have s:=S2.n.ne;have O:LK nb base vh (.slice (some ⟨g,0,none⟩) n cap) n hs (OY bh L G (p+1)) F L G w (w2.setCells g (p*104) Q):=by
   have h1:=S2.n.b.put p 0 96 (λq=>OY bh L G p p q || G q) r Qo;rw[<-A,eP]at h1;have ae:=N.out g rfl;refine⟨⟨S2.n.c.block (a.block _ S2.n.c.lt (λe=>by have:=Zh e;omega)),S2.n.h.keep (λk u=>a.block k (S2.n.h.blk k u).2 (λe=>by have:=Zh e;subst this;exact s k u rfl)),h1.congr (λi q _ hq=>?_),s⟩,S2.l.block (a.block _ S2.l.ltB (λe=>by have:=Zh e;omega)),S2.g.block (a.block _ S2.g.ltB (λe=>by have:=Zh e;omega)),S2.f.trans ⟨(Zk _ _).grown a (by have:=S2.n.c.lt;omega) (λq hq=>by cases hq;omega),λk u _ _ h3=>a.block k u (λe=>h3 e.symm),λ_ h=>Or.inl h,λ_ h=>Or.inl h⟩⟩;rw[j.out];by_cases e:i=p
   .subst e;simp only[dB,decide_true,dL];unfold Xi;by_cases e2:q<96
    .rw[dF Qo];simp[e2]
    rw[dG Qo];simp[e2]
   simp[e]
  have M:Hid (Q.toArray.all (·.oneCell')=true):=by show _=true;rw[A];exact YJ _ _
  have y:=hyd C;have T:w2.cell? ⟨nb,1,none⟩=some (.slice (some ⟨g,0,none⟩) n cap)/\w2.rangeAt (w.heap.size+1) 0 (bl G 96):=⟨(S2.n.c 1 _ rfl).1,S2.g.range⟩;have U:(w2.setCells g (p*104) Q).cell? ⟨nb,1,none⟩=some (.slice (some ⟨g,0,none⟩) n cap)/\(w2.setCells g (p*104) Q).rangeAt (w.heap.size+1) 0 (bl G 96):=⟨(O.n.c 1 _ rfl).1,O.g.range⟩;rw[<-A];rw[eP]at I;clear z HC D S1 S2 A C a j d s X;refine m.out _ _ T (λhHeld=>?_);clear m K
  (try simp only[psm])
  refine tQ 15 ?_
  refine tQ 16 ?_
  refine fL (rs:=[17]) (by kernel_rfl) (by simp) ?_;refine fM (o:=?o17) ?hi17 (λK m=>?_) fN
  case hi17=>simp only[gel];rfl
  rw[dF (by rfl)];refine wp_store_mid 132 _ _ rfl g (p*104) Q.toArray rfl rfl (by simpa[y.out]using I) (by simpa[y.out]using Y0) M.out ?_;rw[Zc];refine m.out _ _ U (λhHeld=>?_);clear m K;refine fO (by kernel_rfl) ?_ _;go_wp2_with fail;go_roundw
  .exact⟨p+1,Qo,by go_num,O⟩
  simp[intOf];omega
 have ac:¬(p:Int)<n:=Qo
 have Y:p=n:=Qo
 subst Y;obtain⟨ad,cap,P,_⟩:=S.n.b.at_;rw[XB]at P;rw[P]at c1;have SN:=S.n;have SF:=S.f;clear S P;go_wp2_with fail;go_end0;exact⟨rfl,SN,SF⟩
def Pu(H:Nat->Option (Nat × Nat))(Z:Array Value)(i z:Nat)(v:Value)(cs:List Value)(rest:List (Nat × Value))(J:H i=some (z,cs.length))(Y:v.cells=cs.toArray)(hZ:z+cs.length<=Z.size):
  ∃Z',Instr.fill H Z ((i,v)::rest)=Instr.fill H Z' rest/\Z'.size=Z.size/\∀k,Z'[k]?=if z<=k/\k<z+cs.length then cs[k-z]? else Z[k]?:=by
 let⟨h1,h2⟩:=GF z cs 0 Z Qo;refine⟨_,?_,h1,λk=>?_⟩
 .rw[Instr.fill];simp only[J,Y];rw[dG Qp];have e:(cs.toArray).zipIdx.foldl (λcs (x:Value × Nat)=>cs.setIfInBounds (z+x.2) x.1) Z=(cs.zipIdx 0).foldl (λcs (x:Value × Nat)=>cs.setIfInBounds (z+x.2) x.1) Z:=by
   rw[<-Array.foldl_toList,Array.toList_zipIdx]
  rw[e]
 rw[h2 k,eP]
def Lr(b:Bool)(f g:Nat->Bool):Nat->Bool:=λi=>if i=0 then b else if i<97 then f (i-1) else g (i-97)
def yl(i:Nat):Option (Nat × Nat):=#[(0,1),(1,96),(97,96)][i]?
def yd(b:Bool)(f g:N_)(Z:Array Value)(z:Z.size=193):Instr.fill yl Z [(0,.bool b),(1,.agg (bl f 96).toArray),(2,.agg (bl g 96).toArray)]=some (bl (Lr b f g) 193).toArray:=by
 let⟨e,j,d,k⟩:=Pu yl Z 0 0 (.bool b) [.bool b] [(1,.agg (bl f 96).toArray),(2,.agg (bl g 96).toArray)] rfl rfl (by rw[z];simp);let⟨h,l,m,n⟩:=Pu yl e 1 1 (.agg (bl f 96).toArray) (bl f 96) [(2,.agg (bl g 96).toArray)] (by rw[Y9];rfl) rfl (by rw[d,z,Y9];omega);let⟨o,c1,c2,c3⟩:=Pu yl h 2 97 (.agg (bl g 96).toArray) (bl g 96) [] (by rw[Y9];rfl) rfl (by rw[m,d,z,Y9];omega);rw[j,l,c1,Instr.fill];congr 1;refine Array.ext_getElem? (λi=>?_);rw[c3,n,k];simp only[Y9,dN];rcases ZD i 193 with a|a
 .have c:(bl (Lr b f g) 193).toArray[i]?=(bl (Lr b f g) 193)[i]?:=Qs
  rw[c,YO _ a];unfold Lr;by_cases h0:i=0
  .subst h0;simp
  by_cases h1:i<97
  .rw[g_,p_,dG h0,dF h1,YO _ Qo]
  rw[p_,dG h0,dG h1,YO _ Qo]
 have c:(bl (Lr b f g) 193).toArray[i]?=none:=by rw[fC (by simp[Y9];exact a)]
 rw[c,g_,g_,g_];simp;omega
def GE(b:Bool)(f g:N_)(w:World):(Instr.build 247 #[(0,.bool b),(1,.agg (bl f 96).toArray),(2,.agg (bl g 96).toArray)]).run prog w=.ok (.agg (bl (Lr b f g) 193).toArray) w:=by
 have d:(Instr.build 247 #[(0,.bool b),(1,.agg (bl f 96).toArray),(2,.agg (bl g 96).toArray)]).run prog w=(match Instr.fill yl (bl (λ_=>false) 193).toArray [(0,.bool b),(1,.agg (bl f 96).toArray),(2,.agg (bl g 96).toArray)]with
  |some cells=>(pure (.agg cells):Go.Sem Value)
  | none => stuck "build: no such field, or a part of the wrong size").run prog w := by kernel_rfl
 have c:=yd b f g (bl (λ_=>false) 193).toArray (by simp[Y9]);rw[d,c];rfl
def VF(H:op.guard=none)(x y z:Operand)(J:op.op=.build 247 #[(0,x),(1,y),(2,z)])(b:Bool)(f g:N_)(Y:a.eval x=.bool b)(Z:a.eval y=.agg (bl f 96).toArray)(hz:a.eval z=.agg (bl g 96).toArray)
  (h:wpList prog ops Q rest (a.put op.dst (.agg (bl (Lr b f g) 193).toArray)) w):wpList prog ops Q (op::rest) a w:=
 fU H λ_ c=>by
  unfold Oper.wp execOp;have d:=GE b f g w;have e:(#[((0:Nat),x),(1,y),(2,z)].map λ(p:Nat × Operand)=>(p.1,a.eval p.2))=#[(0,.bool b),(1,.agg (bl f 96).toArray),(2,.agg (bl g 96).toArray)]:=by simp[Y,Z,hz]
  simp only[J,fE,e,d,Zu,fV];exact c _ _ h
def zI{o:Nat}{f:N_}{t:TypeId}{d:TypeDesc}(h:w.rangeAt b o (bl f n))(J:prog.underlying t=some d)(z:d.isRow=true)(H:(prog.info? t).map (·.size)=some n):(loadVar t (a_ b o)).run prog w=.ok (.agg (bl f n).toArray) w:=
 ZF (P:=prog) w b o t (bl f n) _ h J z (by rw[Y9];exact H)
def Nw{g:N_}(h:TC b (bl g 193) w)(f:N_):(loadVar 247 (a_ b 0)).run prog (w.setCells b 0 (bl f 193))=.ok (.agg (bl f 193).toArray) (w.setCells b 0 (bl f 193)):=
 zI (Zo w b 0 (bl f 193) (by rw[Y9];exact Yc h)) u_b rfl Y3
def YB.mine(h:YB nb base vh vb n hs bh F w){k:Nat}(z:w.grownBy w' (some k))(h1:k≠nb)(h2:vh.ownBlock≠some k)(h3:vb.ownBlock≠some k):YB nb base vh vb n hs bh F w':=
 ⟨h.c.block (z.block _ h.c.lt (λe=>h1 (Zh e).symm)),h.h.keep (λq a=>z.block q (h.h.blk q a).2 (λe=>h2 (by rw[a,e]))),h.b.keep (λq a=>z.block q (h.b.blk q a).2 (λe=>h3 (by rw[a,e]))),h.ne⟩
def NF.mine(h:NF nb vh vb vh' vb' w w1){k:Nat}(z:w1.grownBy w2 (some k))(H:w.heap.size<=k)(J:nb<w.heap.size):NF nb vh vb vh' vb' w w2:=
 ⟨h.b.grown z (by have:=h.b.size;omega) (λq c=>by cases c;omega),λq h1 h2 h3 a=>by rw[z.block q (by have:=h.b.size;omega) (λe=>by have:=Zh e;omega)];exact h.k q h1 h2 h3 a,h.oh,h.ob⟩
structure JN (nb base:Nat) (vh vb:Value) (n:Nat) (hs bh:Nat->Nat->Bool) (F r s c:Nat->Bool) (w W:World) (A B:Nat):Prop where
 n:YB nb base vh vb n hs bh F W
 a:TC A (bl r 193) W
 b:TC (A+1) (bl s 193) W
 z:TC (A+2) (bl (fun _=>false) 193) W
 c:TC B (bl c 193) W
 f:NF nb vh vb vh vb w W
 g:A=w.heap.size/\nb<A/\A+3<=B/\(∀k,vh.ownBlock=some k->k<A)/\(∀k,vb.ownBlock=some k->k<A)
def JN.below{r s c:N_}{A:Nat}(h:JN nb base vh vb n hs bh F r s c w W A B)(H:Bl W W'):JN nb base vh vb n hs bh F r s c w W' A B:=
 ⟨h.n.below H,h.a.block (H.block _ h.a.ltB),h.b.block (H.block _ h.b.ltB),h.z.block (H.block _ h.z.ltB),h.c.block (H.block _ h.c.ltB),h.f.trans (NF.of vh vb (by have:=h.n.c.lt;omega) H),h.g⟩
def JN.put{r s c:N_}{A:Nat}(h:JN nb base vh vb n hs bh F r s c w W A B)(o m:Nat)(G:N_)(H:o+m<=193):JN nb base vh vb n hs bh F r s (Xi c o m G) w (W.setCells B o (bl G m)) A B:=by
 have d:=Y8 B (bl G m) o W;let⟨g1,g2,k,i,j⟩:=h.g;exact⟨h.n.mine d Qo (λe=>by have:=i _ e;omega) (λe=>by have:=j _ e;omega),h.a.block (d.block _ h.a.ltB (λe=>by have:=Zh e;omega)),h.b.block (d.block _ h.b.ltB (λe=>by have:=Zh e;omega)),h.z.block (d.block _ h.z.ltB (λe=>by have:=Zh e;omega)),h.c.setPart o m G H,h.f.mine d Qo Qo,h.g⟩
def jn(r s:Nat->Bool):Nat->Bool:=λi=>if i=0 then r 0&&s 0 else if i<97 then r i || (r 0&&s i) else s i || (s 0&&r i)
def Rj(nb base:Nat)(vh vb:Value)(n:Nat)(hs bh:Nat->N_)(F r s:N_)(w:World)(hN:YB nb base vh vb n hs bh F w)(aP:nb<base)(hn:n<=96):
  Cp 211 #[pT nb,.agg (bl r 193).toArray,.agg (bl s 193).toArray] w λe w'=>e=.returned (.agg (bl (jn r s) 193).toArray)/\YB nb base vh vb n hs (OY bh (λp=>r (97+p)) (λq=>s (1+q)) n) F w'/\NF nb vh vb vh vb w w':=by
 have hz:=Wg;have aO:=hN.c.lt;have aE:Hid (∀k,vh.ownBlock=some k->k<w.heap.size):=λk hk=>(hN.h.blk k hk).2
 have aD:Hid (∀k,vb.ownBlock=some k->k<w.heap.size):=λk hk=>(hN.b.blk k hk).2
 let⟨A,hA⟩:=nam w.heap.size;let⟨W1,ah⟩:=nam (w.alloc (.cells (bl r 193).toArray 247));let⟨W2,aq⟩:=nam (W1.alloc (.cells (bl s 193).toArray 247));let⟨W3,ar⟩:=nam (W2.alloc (.cells (bl (λ_=>false) 193).toArray 247));have z1:W1.heap.size=A+1:=by rw[ah,hA];simp
 have z2:W2.heap.size=A+2:=by rw[aq];simp[z1]
 have z3:W3.heap.size=A+3:=by rw[ar];simp[z2]
 have S0:YB nb base vh vb n hs bh F W3/\TC A (bl r 193) W3/\TC (A+1) (bl s 193) W3/\TC (A+2) (bl (λ_=>false) 193) W3/\NF nb vh vb vh vb w W3:=by
  have T1:=TC.boxed w (bl r 193) 247;have T2:=TC.boxed W1 (bl s 193) 247;have T3:=TC.boxed W2 (bl (λ_=>false) 193) 247;have x1:=box_bel w (.cells (bl r 193).toArray 247);have x2:=box_bel W1 (.cells (bl s 193).toArray 247);have x3:=box_bel W2 (.cells (bl (λ_=>false) 193).toArray 247);unfold Bl at x1 x2 x3;rw[<-ah,<-hA]at T1;rw[<-ah]at x1;rw[<-aq,z1]at T2 x2;rw[<-ar,z2]at T3 x3;have B:Bl w W3:=(x1.trans (x2.mono Qo)).trans (x3.mono Qo);exact⟨hN.below B,(T1.block (x2.block _ Qo)).block (x3.block _ Qo),T2.block (x3.block _ Qo),T3,NF.of vh vb Qo B⟩
 let⟨aH,ay,az,aI,aG⟩:=S0;have r1:=ay.sub 97 96 Qo;have r2:=az.sub 1 96 Qo;have HA:=hyd hA;have HW:Hid (W3=((w.alloc (.cells (bl r 193).toArray 247)).alloc (.cells (bl s 193).toArray 247)).alloc (.cells (bl (λ_=>false) 193).toArray 247)):=by show _=_;rw[ar,aq,ah]
 have aF:=hyd z3;rw[hA]at r1 r2;clear hN ah aq ar z1 z2 z3 hA;go_enter func211,ntmps211;go_wp2_with (first|(with_reducible apply gld 132;rw[<-HW.o];refine Zb rfl 132 _ rfl w.heap.size 97 rfl _ _ r1 u_a rfl (by rw[Y9];exact Y0) ?_)|(with_reducible apply gld 132;refine Zb rfl 132 _ rfl (w.heap.size+1) 1 rfl _ _ r2 u_a rfl (by rw[Y9];exact Y0) ?_));apply ft (MY nb base vh vb n hs bh F _ _ W3 aH aP hn);rintro e w1 ⟨rfl,N1,F1⟩;rw[<-HA.o];have aa:=aE.o;have Z:=aD.o;have aL:=HA.o;have aM:=F1.b.size;have aN:=aF.o;have kp:∀k,A<=k->k<A+3->w1.heap[k]?=W3.heap[k]?:=λk h1 h2=>F1.k k Qo Qo (λe=>by have:=aa k e;omega) (λe=>by have:=Z k e;omega)
 have T1:=ay.block (kp A Qo Qo);have T2:=az.block (kp (A+1) Qo Qo);have T3:=aI.block (kp (A+2) Qo Qo);have F2:=aG.trans F1;let⟨bh2,aC⟩:=nam (OY bh (λp=>r (97+p)) (λq=>s (1+q)) n);rw[<-aC]at N1;have ap:=hyd aC;clear aH ay az aI aG F1 kp r1 r2 aa Z aC HW aF;have ca:=(T1 0 _ (YO r Qo)).1;have cb:=(T2 0 _ (YO s Qo)).1;have q1:=T1.sub 1 96 Qo;have q2:=T2.sub 97 96 Qo;let⟨B,hB⟩:=nam w1.heap.size;let⟨W4,aB⟩:=nam (w1.alloc (.cells (bl (λ_=>false) 193).toArray 247));have x4:=box_bel w1 (.cells (bl (λ_=>false) 193).toArray 247);have T4:=TC.boxed w1 (bl (λ_=>false) 193) 247;rw[<-aB]at x4 T4;rw[<-hB]at T4;have N4:=N1.below x4;have F4:=F2.trans (NF.of vh vb Qo x4);have U1:=T1.block (x4.block _ T1.ltB);have U2:=T2.block (x4.block _ T2.ltB);have U3:=T3.block (x4.block _ T3.ltB);let⟨x,hx⟩:=nam (r 0);let⟨y,hy⟩:=nam (s 0);rw[<-hx]at ca;rw[<-hy]at cb;have Hx:=hyd hx;have Hy:=hyd hy;let⟨L,hL⟩:=nam (bl (Lr (x&&y) (λi=>r (1+i)) (λi=>s (97+i))) 193);have HL:=hyd hL;have K:Hid (L.length=193):=by show _=_;rw[hL];exact Y9 _ _
 have am:Hid (L.toArray.all (·.oneCell')=true):=by show _=true;rw[hL];exact YJ _ _
 have av:=Yc T4;let⟨W5,au⟩:=nam (W4.setCells B 0 L);have W:=Y8 B L 0 W4;rw[<-au]at W;have aa:=aE.o;have Z:=aD.o;have T5:TC B (bl (Lr (x&&y) (λi=>r (1+i)) (λi=>s (97+i))) 193) W5:=by
  have:=T4.setPart 0 193 (Lr (x&&y) (λi=>r (1+i)) (λi=>s (97+i))) Qo;rw[<-hL,<-au,YW (g:=Lr (x&&y) (λi=>r (1+i)) (λi=>s (97+i))) (λi hi=>by unfold Xi;rw[p_];rfl)]at this;exact this
 have aK:A+3<=B:=Qo
 have N5:=N4.mine W Qo (λe=>by have:=aa _ e;omega) (λe=>by have:=Z _ e;omega);have F5:=F4.mine W Qo Qo;have V1:=U1.block (W.block _ U1.ltB (λe=>by have:=Zh e;omega));have V2:=U2.block (W.block _ U2.ltB (λe=>by have:=Zh e;omega));have V3:=U3.block (W.block _ U3.ltB (λe=>by have:=Zh e;omega));have u:JN nb base vh vb n hs bh2 F r s (Lr (x&&y) (λi=>r (1+i)) (λi=>s (97+i))) w W5 A B:=⟨N5,V1,V2,V3,T5,F5,Qo,Qo,aK,λk hk=>by have:=aa k hk;omega,λk hk=>by have:=Z k hk;omega⟩;have ao:=hyd au;have an:=hyd aB;have HB:=hyd hB;clear hx hy hL au W aB x4 N1 F2 T1 T2 T3 T4 T5 U1 U2 U3 N4 F4 hB N5 F5 V1 V2 V3 aa Z aL aM aN;cases x
 .cases y
  .have S:=(u.a 0 _ (YO r Qo)).1;have T:=(u.b 0 _ (YO s Qo)).1;rw[<-Hx.o]at S;rw[<-Hy.o]at T;have t:=u.c;let⟨M,D⟩:=nam (bl (Lr (false&&false) (λi=>r (1+i)) (λi=>s (97+i))) 193);rw[<-D]at t;have j:M.length=193:=by rw[D];exact Y9 _ _
   have rM:=t.range;have HM:Hid (M=bl (jn r s) 193):=by
    show _=_;rw[D];refine YW (λi hi=>?_);have e1:=Hx.o;have e2:=Hy.o;unfold jn;rw[<-e1,<-e2];simp only[Lr];by_cases h0:i=0
    .subst h0;simp
    by_cases h1:i<97
    .have h2:1+(i-1)=i:=Qo
     simp[h0,h1,h2,show ¬97<=i by omega]
    have h2:97+(i-97)=i:=Qo
    simp[h0,h1,h2]
   have tz:=Yc u.z;have m:=Y8 (A+2) M 0 W5;have E:=Zo W5 (A+2) 0 M (by rw[j];exact tz);have d:=ZF (P:=prog) (W5.setCells (A+2) 0 M) (A+2) 0 247 M _ E u_b rfl (by rw[j];exact Y3);let⟨g1,g2,g3,g4,g5⟩:=u.g;have NX:=u.n.mine m Qo (λe=>by have:=g4 _ e;omega) (λe=>by have:=g5 _ e;omega);have FX:=u.f.mine m Qo Qo;let⟨WX,o⟩:=nam (W5.setCells (A+2) 0 M);rw[<-o]at d NX FX;have R:=hyd o;have C:=hyd d;have l:=hyd j;have Q:Hid (M.toArray.all (·.oneCell')=true):=by show _=true;rw[D];exact YJ _ _
   clear D j m E d o t g1 g2 g3 g4 g5 u;go_wp2_with (first|(with_reducible apply gld 132;refine Zb rfl 132 _ rfl A 1 rfl _ _ q1 u_a rfl (by rw[Y9];exact Y0) ?_)|(with_reducible apply gld 132;refine Zb rfl 132 _ rfl (A+1) 97 rfl _ _ q2 u_a rfl (by rw[Y9];exact Y0) ?_)|(with_reducible show wpList _ _ _ (⟨_,Op.build 247 _,_,_,_,_⟩::_) _ _;apply VF rfl _ _ _ rfl (false&&false) (λi=>r (1+i)) (λi=>s (97+i)) rfl rfl rfl;rw[<-HL.o])|(with_reducible apply gst 247;rw[<-an.o,<-HB.o];apply Za rfl 247 _ _ rfl B 0 L.toArray rfl rfl (by simpa[K.o]using av) (by simpa[K.o]using Y3) am.o;rw[Zc,<-ao.o])|(with_reducible apply gld 247;refine Zb rfl 247 _ rfl B 0 rfl M _ rM u_b rfl (by rw[l.o];exact Y3) ?_)|(with_reducible apply gst 247;apply Za rfl 247 _ _ rfl (A+2) 0 M.toArray rfl rfl (by simpa[l.o]using tz) (by simpa[l.o]using Y3) Q.o;rw[Zc,<-R.o]));apply Zr (v:=.agg M.toArray) (res_load1 results211 rfl C.o) rfl;exact⟨by rw[HM.o],by rw[<-ap.o];exact NX,FX⟩
  have S:=(u.a 0 _ (YO r Qo)).1;have T:=(u.b 0 _ (YO s Qo)).1;rw[<-Hx.o]at S;rw[<-Hy.o]at T;have ak:=u.b.sub 97 96 Qo;have al:=u.a.sub 97 96 Qo;have ae:=hyd u;clear u;go_wp2_with (first|(with_reducible apply gld 132;refine Zb rfl 132 _ rfl A 1 rfl _ _ q1 u_a rfl (by rw[Y9];exact Y0) ?_)|(with_reducible apply gld 132;refine Zb rfl 132 _ rfl (A+1) 97 rfl _ _ q2 u_a rfl (by rw[Y9];exact Y0) ?_)|(with_reducible show wpList _ _ _ (⟨_,Op.build 247 _,_,_,_,_⟩::_) _ _;apply VF rfl _ _ _ rfl (false&&true) (λi=>r (1+i)) (λi=>s (97+i)) rfl rfl rfl;rw[<-HL.o])|(with_reducible apply gst 247;rw[<-an.o,<-HB.o];apply Za rfl 247 _ _ rfl B 0 L.toArray rfl rfl (by simpa[K.o]using av) (by simpa[K.o]using Y3) am.o;rw[Zc,<-ao.o])|(with_reducible apply gld 132;refine Zb rfl 132 _ rfl (A+1) 97 rfl _ _ ak u_a rfl (by rw[Y9];exact Y0) ?_)|(with_reducible apply gld 132;refine Zb rfl 132 _ rfl A 97 rfl _ _ al u_a rfl (by rw[Y9];exact Y0) ?_));apply ft (Xn _ _ W5);rintro e v9 ⟨rfl,ag⟩;have J9:=ae.o.below ag;let⟨G2,H⟩:=nam (bl (λi=>s (97+i) || r (97+i)) 96);have O:=J9.put 97 96 (λi=>s (97+i) || r (97+i)) Qo;have Y:=J9.c.thereAt 97 96 Qo;rw[<-H]at O ⊢;let⟨W9,V⟩:=nam (v9.setCells B 97 G2);rw[<-V]at O;have ax:=hyd V;have J:Hid (G2.length=96):=by show _=_;rw[H];exact Y9 _ _
  have ac:Hid (G2.toArray.all (·.oneCell')=true):=by show _=true;rw[H];exact YJ _ _
  clear V H J9 ag ak al;have t:=O.c;let⟨M,D⟩:=nam (bl (Xi (Lr (false&&true) (λi=>r (1+i)) (λi=>s (97+i))) 97 96 (λi=>s (97+i) || r (97+i))) 193);rw[<-D]at t;have j:M.length=193:=by rw[D];exact Y9 _ _
  have rM:=t.range;have HM:Hid (M=bl (jn r s) 193):=by
   show _=_;rw[D];refine YW (λi hi=>?_);have e1:=Hx.o;have e2:=Hy.o;unfold jn;rw[<-e1,<-e2];simp only[Xi,Lr];by_cases h0:i=0
   .subst h0;simp
   by_cases h1:i<97
   .have h2:1+(i-1)=i:=Qo
    simp[h0,h1,h2,show ¬97<=i by omega]
   have h2:97+(i-97)=i:=Qo
   simp[h0,h1,h2,show 97<=i by omega,show i<193 by omega]
  have tz:=Yc O.z;have m:=Y8 (A+2) M 0 W9;have E:=Zo W9 (A+2) 0 M (by rw[j];exact tz);have d:=ZF (P:=prog) (W9.setCells (A+2) 0 M) (A+2) 0 247 M _ E u_b rfl (by rw[j];exact Y3);let⟨g1,g2,g3,g4,g5⟩:=O.g;have NX:=O.n.mine m Qo (λe=>by have:=g4 _ e;omega) (λe=>by have:=g5 _ e;omega);have FX:=O.f.mine m Qo Qo;let⟨WX,o⟩:=nam (W9.setCells (A+2) 0 M);rw[<-o]at d NX FX;have R:=hyd o;have C:=hyd d;have l:=hyd j;have Q:Hid (M.toArray.all (·.oneCell')=true):=by show _=true;rw[D];exact YJ _ _
  clear D j m E d o t g1 g2 g3 g4 g5 O;go_wp2_with (first|(with_reducible apply gst 132;apply Za rfl 132 _ _ rfl B 97 G2.toArray rfl rfl (by simpa[J.o]using Y) (by simpa[J.o]using Y0) ac.o;rw[Zc,<-ax.o])|(with_reducible apply gld 247;refine Zb rfl 247 _ rfl B 0 rfl M _ rM u_b rfl (by rw[l.o];exact Y3) ?_)|(with_reducible apply gst 247;apply Za rfl 247 _ _ rfl (A+2) 0 M.toArray rfl rfl (by simpa[l.o]using tz) (by simpa[l.o]using Y3) Q.o;rw[Zc,<-R.o]));apply Zr (v:=.agg M.toArray) (res_load1 results211 rfl C.o) rfl;exact⟨by rw[HM.o],by rw[<-ap.o];exact NX,FX⟩
 cases y
 .have S:=(u.a 0 _ (YO r Qo)).1;have T:=(u.b 0 _ (YO s Qo)).1;rw[<-Hx.o]at S;rw[<-Hy.o]at T;have ai:=u.a.sub 1 96 Qo;have aj:=u.b.sub 1 96 Qo;have ae:=hyd u;clear u;go_wp2_with (first|(with_reducible apply gld 132;refine Zb rfl 132 _ rfl A 1 rfl _ _ q1 u_a rfl (by rw[Y9];exact Y0) ?_)|(with_reducible apply gld 132;refine Zb rfl 132 _ rfl (A+1) 97 rfl _ _ q2 u_a rfl (by rw[Y9];exact Y0) ?_)|(with_reducible show wpList _ _ _ (⟨_,Op.build 247 _,_,_,_,_⟩::_) _ _;apply VF rfl _ _ _ rfl (true&&false) (λi=>r (1+i)) (λi=>s (97+i)) rfl rfl rfl;rw[<-HL.o])|(with_reducible apply gst 247;rw[<-an.o,<-HB.o];apply Za rfl 247 _ _ rfl B 0 L.toArray rfl rfl (by simpa[K.o]using av) (by simpa[K.o]using Y3) am.o;rw[Zc,<-ao.o])|(with_reducible apply gld 132;refine Zb rfl 132 _ rfl A 1 rfl _ _ ai u_a rfl (by rw[Y9];exact Y0) ?_)|(with_reducible apply gld 132;refine Zb rfl 132 _ rfl (A+1) 1 rfl _ _ aj u_a rfl (by rw[Y9];exact Y0) ?_));apply ft (Xn _ _ W5);rintro e v7 ⟨rfl,af⟩;have J7:=ae.o.below af;let⟨G1,G⟩:=nam (bl (λi=>r (1+i) || s (1+i)) 96);have N:=J7.put 1 96 (λi=>r (1+i) || s (1+i)) Qo;have X:=J7.c.thereAt 1 96 Qo;rw[<-G]at N ⊢;let⟨W7,U⟩:=nam (v7.setCells B 1 G1);rw[<-U]at N;have aw:=hyd U;have I:Hid (G1.length=96):=by show _=_;rw[G];exact Y9 _ _
  have ab:Hid (G1.toArray.all (·.oneCell')=true):=by show _=true;rw[G];exact YJ _ _
  clear U G J7 af ai aj;have aA:=(N.b 0 _ (YO s Qo)).1;rw[<-Hy.o]at aA;have t:=N.c;let⟨M,D⟩:=nam (bl (Xi (Lr (true&&false) (λi=>r (1+i)) (λi=>s (97+i))) 1 96 (λi=>r (1+i) || s (1+i))) 193);rw[<-D]at t;have j:M.length=193:=by rw[D];exact Y9 _ _
  have rM:=t.range;have HM:Hid (M=bl (jn r s) 193):=by
   show _=_;rw[D];refine YW (λi hi=>?_);have e1:=Hx.o;have e2:=Hy.o;unfold jn;rw[<-e1,<-e2];simp only[Xi,Lr];by_cases h0:i=0
   .subst h0;simp
   by_cases h1:i<97
   .have h2:1+(i-1)=i:=Qo
    simp[h0,h1,h2,show ¬97<=i by omega,show 1<=i by omega]
   have h2:97+(i-97)=i:=Qo
   simp[h0,h1,h2]
  have tz:=Yc N.z;have m:=Y8 (A+2) M 0 W7;have E:=Zo W7 (A+2) 0 M (by rw[j];exact tz);have d:=ZF (P:=prog) (W7.setCells (A+2) 0 M) (A+2) 0 247 M _ E u_b rfl (by rw[j];exact Y3);let⟨g1,g2,g3,g4,g5⟩:=N.g;have NX:=N.n.mine m Qo (λe=>by have:=g4 _ e;omega) (λe=>by have:=g5 _ e;omega);have FX:=N.f.mine m Qo Qo;let⟨WX,o⟩:=nam (W7.setCells (A+2) 0 M);rw[<-o]at d NX FX;have R:=hyd o;have C:=hyd d;have l:=hyd j;have Q:Hid (M.toArray.all (·.oneCell')=true):=by show _=true;rw[D];exact YJ _ _
  clear D j m E d o t g1 g2 g3 g4 g5 N;go_wp2_with (first|(with_reducible apply gst 132;apply Za rfl 132 _ _ rfl B 1 G1.toArray rfl rfl (by simpa[I.o]using X) (by simpa[I.o]using Y0) ab.o;rw[Zc,<-aw.o])|(with_reducible apply gld 247;refine Zb rfl 247 _ rfl B 0 rfl M _ rM u_b rfl (by rw[l.o];exact Y3) ?_)|(with_reducible apply gst 247;apply Za rfl 247 _ _ rfl (A+2) 0 M.toArray rfl rfl (by simpa[l.o]using tz) (by simpa[l.o]using Y3) Q.o;rw[Zc,<-R.o]));apply Zr (v:=.agg M.toArray) (res_load1 results211 rfl C.o) rfl;exact⟨by rw[HM.o],by rw[<-ap.o];exact NX,FX⟩
 have S:=(u.a 0 _ (YO r Qo)).1;have T:=(u.b 0 _ (YO s Qo)).1;rw[<-Hx.o]at S;rw[<-Hy.o]at T;have ai:=u.a.sub 1 96 Qo;have aj:=u.b.sub 1 96 Qo;have ae:=hyd u;clear u;go_wp2_with (first|(with_reducible apply gld 132;refine Zb rfl 132 _ rfl A 1 rfl _ _ q1 u_a rfl (by rw[Y9];exact Y0) ?_)|(with_reducible apply gld 132;refine Zb rfl 132 _ rfl (A+1) 97 rfl _ _ q2 u_a rfl (by rw[Y9];exact Y0) ?_)|(with_reducible show wpList _ _ _ (⟨_,Op.build 247 _,_,_,_,_⟩::_) _ _;apply VF rfl _ _ _ rfl (true&&true) (λi=>r (1+i)) (λi=>s (97+i)) rfl rfl rfl;rw[<-HL.o])|(with_reducible apply gst 247;rw[<-an.o,<-HB.o];apply Za rfl 247 _ _ rfl B 0 L.toArray rfl rfl (by simpa[K.o]using av) (by simpa[K.o]using Y3) am.o;rw[Zc,<-ao.o])|(with_reducible apply gld 132;refine Zb rfl 132 _ rfl A 1 rfl _ _ ai u_a rfl (by rw[Y9];exact Y0) ?_)|(with_reducible apply gld 132;refine Zb rfl 132 _ rfl (A+1) 1 rfl _ _ aj u_a rfl (by rw[Y9];exact Y0) ?_));apply ft (Xn _ _ W5);rintro e v7 ⟨rfl,af⟩;have J7:=ae.o.below af;let⟨G1,G⟩:=nam (bl (λi=>r (1+i) || s (1+i)) 96);have N:=J7.put 1 96 (λi=>r (1+i) || s (1+i)) Qo;have X:=J7.c.thereAt 1 96 Qo;rw[<-G]at N ⊢;let⟨W7,U⟩:=nam (v7.setCells B 1 G1);rw[<-U]at N;have aw:=hyd U;have I:Hid (G1.length=96):=by show _=_;rw[G];exact Y9 _ _
 have ab:Hid (G1.toArray.all (·.oneCell')=true):=by show _=true;rw[G];exact YJ _ _
 clear U G J7 af ai aj;have aA:=(N.b 0 _ (YO s Qo)).1;rw[<-Hy.o]at aA;have ak:=N.b.sub 97 96 Qo;have al:=N.a.sub 97 96 Qo;have aJ:=hyd N;clear N;go_wp2_with (first|(with_reducible apply gst 132;apply Za rfl 132 _ _ rfl B 1 G1.toArray rfl rfl (by simpa[I.o]using X) (by simpa[I.o]using Y0) ab.o;rw[Zc,<-aw.o])|(with_reducible apply gld 132;refine Zb rfl 132 _ rfl (A+1) 97 rfl _ _ ak u_a rfl (by rw[Y9];exact Y0) ?_)|(with_reducible apply gld 132;refine Zb rfl 132 _ rfl A 97 rfl _ _ al u_a rfl (by rw[Y9];exact Y0) ?_));apply ft (Xn _ _ W7);rintro e v9 ⟨rfl,ag⟩;have J9:=aJ.o.below ag;let⟨G2,H⟩:=nam (bl (λi=>s (97+i) || r (97+i)) 96);have O:=J9.put 97 96 (λi=>s (97+i) || r (97+i)) Qo;have Y:=J9.c.thereAt 97 96 Qo;rw[<-H]at O ⊢;let⟨W9,V⟩:=nam (v9.setCells B 97 G2);rw[<-V]at O;have ax:=hyd V;have J:Hid (G2.length=96):=by show _=_;rw[H];exact Y9 _ _
 have ac:Hid (G2.toArray.all (·.oneCell')=true):=by show _=true;rw[H];exact YJ _ _
 clear V H J9 ag ak al;have t:=O.c;let⟨M,D⟩:=nam (bl (Xi (Xi (Lr (true&&true) (λi=>r (1+i)) (λi=>s (97+i))) 1 96 (λi=>r (1+i) || s (1+i))) 97 96 (λi=>s (97+i) || r (97+i))) 193);rw[<-D]at t;have j:M.length=193:=by rw[D];exact Y9 _ _
 have rM:=t.range;have HM:Hid (M=bl (jn r s) 193):=by
  show _=_;rw[D];refine YW (λi hi=>?_);have e1:=Hx.o;have e2:=Hy.o;unfold jn;rw[<-e1,<-e2];simp only[Xi,Lr];by_cases h0:i=0
  .subst h0;simp
  by_cases h1:i<97
  .have h2:1+(i-1)=i:=Qo
   simp[h0,h1,h2,show ¬97<=i by omega,show 1<=i by omega]
  have h2:97+(i-97)=i:=Qo
  simp[h0,h1,h2,show 97<=i by omega,show i<193 by omega]
 have tz:=Yc O.z;have m:=Y8 (A+2) M 0 W9;have E:=Zo W9 (A+2) 0 M (by rw[j];exact tz);have d:=ZF (P:=prog) (W9.setCells (A+2) 0 M) (A+2) 0 247 M _ E u_b rfl (by rw[j];exact Y3);let⟨g1,g2,g3,g4,g5⟩:=O.g;have NX:=O.n.mine m Qo (λe=>by have:=g4 _ e;omega) (λe=>by have:=g5 _ e;omega);have FX:=O.f.mine m Qo Qo;let⟨WX,o⟩:=nam (W9.setCells (A+2) 0 M);rw[<-o]at d NX FX;have R:=hyd o;have C:=hyd d;have l:=hyd j;have Q:Hid (M.toArray.all (·.oneCell')=true):=by show _=true;rw[D];exact YJ _ _
 clear D j m E d o t g1 g2 g3 g4 g5 O;go_wp2_with (first|(with_reducible apply gst 132;apply Za rfl 132 _ _ rfl B 97 G2.toArray rfl rfl (by simpa[J.o]using Y) (by simpa[J.o]using Y0) ac.o;rw[Zc,<-ax.o])|(with_reducible apply gld 247;refine Zb rfl 247 _ rfl B 0 rfl M _ rM u_b rfl (by rw[l.o];exact Y3) ?_)|(with_reducible apply gst 247;apply Za rfl 247 _ _ rfl (A+2) 0 M.toArray rfl rfl (by simpa[l.o]using tz) (by simpa[l.o]using Y3) Q.o;rw[Zc,<-R.o]));apply Zr (v:=.agg M.toArray) (res_load1 results211 rfl C.o) rfl;exact⟨by rw[HM.o],by rw[<-ap.o];exact NX,FX⟩
structure Ya (p:Prop):Prop where
 out:p
def SJ(x:Operand)(z:o.op=.buildSlice 129 1 #[(0,x)])(f:N_)(H:a.eval x=.agg (bl f 256).toArray):
  (execOp a.eval o).run prog w=.ok (.value (.slice (some (a_ w.heap.size 0)) 1 1)) (w.alloc (.cells (bl f 256).toArray 251)):=by
 unfold execOp;have b:=KA f w;have e:(#[((0:Nat),x)].map λ(p:Nat × Operand)=>(p.1,a.eval p.2))=#[(0,.agg (bl f 256).toArray)]:=by simp[H]
 simp only[z,fE,e,b,Zu,fV]
def zp(n:Nat):Nat->Bool:=λi=>i==1+n || i==97+n
structure PC (base:Nat) (vh vb:Value) (nb n:Nat) (hs bh:Nat->Nat->Bool) (m:Nat) (F f c:Nat->Bool) (w W:World):Prop where
 ct:TC nb (vh::vb::bl F 104) W
 oh:Wu base vh (UZ n hs) W
 ob:XL base vb (UZ m bh) W
 ne:∀k,vh.ownBlock=some k->vb.ownBlock≠some k
 st:TC w.heap.size (bl f 256) W
 zt:TC (w.heap.size+1) (bl (fun _=>false) 193) W
 ot:TC (w.heap.size+2) (bl c 193) W
 bw:Below nb w W
 nh:∀k,vh.ownBlock=some k->k<w.heap.size\/w.heap.size+3<=k
 nv:∀k,vb.ownBlock=some k->k<w.heap.size\/w.heap.size+3<=k
def Em(nb base:Nat)(vh vb:Value)(n:Nat)(hs bh:Nat->N_)(F f:N_)(w:World)(hN:YB nb base vh vb n hs bh F w)(bq:nb<base)(bp:base<=w.heap.size)(hn:n<96):
  Cp 219 #[pT nb,.agg (bl f 256).toArray] w λe w'=>∃vh' vb',e=.returned (.agg (bl (zp n) 193).toArray)/\YB nb base vh' vb' (n+1) (λp=>if p=n then f else hs p) (λp=>if p=n then (λ_=>false) else bh p) F w'/\NF nb vh vb vh' vb' w w':=by
 have hz:=Wg;have bm:=hN.c.lt;have HN:=hyd hN;let⟨W1,af⟩:=nam (w.alloc (.cells (bl f 256).toArray 251));let⟨W2,ag⟩:=nam (W1.alloc (.cells (bl (λ_=>false) 193).toArray 247));let⟨o,ah⟩:=nam (W2.alloc (.cells (bl (λ_=>false) 193).toArray 247));have z1:W1.heap.size=w.heap.size+1:=by rw[af];simp
 have z2:W2.heap.size=w.heap.size+2:=by rw[ag];simp[z1]
 have z3:o.heap.size=w.heap.size+3:=by rw[ah];simp[z2]
 have S0:TC w.heap.size (bl f 256) o/\TC (w.heap.size+1) (bl (λ_=>false) 193) o/\TC (w.heap.size+2) (bl (λ_=>false) 193) o/\Bl w o:=by
  have T1:=TC.boxed w (bl f 256) 251;have T2:=TC.boxed W1 (bl (λ_=>false) 193) 247;have T3:=TC.boxed W2 (bl (λ_=>false) 193) 247;have x1:=box_bel w (.cells (bl f 256).toArray 251);have x2:=box_bel W1 (.cells (bl (λ_=>false) 193).toArray 247);have x3:=box_bel W2 (.cells (bl (λ_=>false) 193).toArray 247);unfold Bl at x1 x2 x3;rw[<-af]at T1 x1;rw[<-ag,z1]at T2 x2;rw[<-ah,z2]at T3 x3;exact⟨(T1.block (x2.block _ Qo)).block (x3.block _ Qo),T2.block (x3.block _ Qo),T3,(x1.trans (x2.mono Qo)).trans (x3.mono Qo)⟩
 let⟨s1,s2,s3,B3⟩:=S0;have N3:=hN.below B3;let⟨ad,cap,eh,_⟩:=hN.h.at_;rw[XB]at eh;have aE:=hyd eh;have c0:o.cell? (a_ nb 0)=some (.slice ad n cap):=by rw[<-eh];exact(N3.c 0 _ rfl).1
 have a4:o.frozen? (a_ nb 0)=false:=(N3.c 0 _ rfl).2;have az:=s1.range;have HW:Hid (o=((w.alloc (.cells (bl f 256).toArray 251)).alloc (.cells (bl (λ_=>false) 193).toArray 247)).alloc (.cells (bl (λ_=>false) 193).toArray 247)):=by show _=_;rw[ah,ag,af]
 have aa:=hyd z3;have ar:=hyd5 s2 s3 s1 B3 N3;have bi:¬(96:Int)<=n:=Qo
 rw[HW.o]at c0;clear hN af ag ah z1 z2 z3 s1 s2 s3 B3 N3 eh;go_enter func219,ntmps219;go_wp2;rw[<-HW.o];rw[<-HW.o]at c0;clear HW;apply wp_region_any Qk;change wpAny _ _ _ _ 11 _ _ o.drew;apply tJ 0
 apply tJ 1
 apply tJ 2
 apply tJ 3
 let⟨R,z⟩:=nam (o.drew.alloc (.cells (bl f 256).toArray 251));have V:R.rangeAt o.drew.heap.size 0 (bl f 256):=by rw[z];exact(TC.boxed o.drew (bl f 256) 251).range
 have x4:Bl o R:=by rw[z];exact(Zk o.heap.size o).drew.trans (show Below o.heap.size o.drew _ from box_bel o.drew _)
 have q4:=c0;have be:R.cell? (a_ nb 0)=some (.slice ad n cap):=by rw[<-aE.o];exact((ar.o.2.2.2.2.below x4).c 0 _ rfl).1
 refine Sl (fuel:=4) 4 5 6 (o4:=?o4) (o5:=?o5) (o6:=?o6) (v4:=.slice ad n cap) (v5:=.agg (bl f 256).toArray) (v6:=.slice (some (a_ o.drew.heap.size 0)) 1 1) (L:=#[true,true,true,true,true,true,true,false,false,false,false]) (A:=?A) (w':=R)
  ?h4 ?h5 ?h6 ?g4 ?g5 ?g6 ?r0 ?r1 ?r2 ?r3 ?r4 ?r5 ?x4 ?y4 ?z4 ?x5 ?y5 ?x6 ?y6 ?z6 ?l1 ?l2 ?l3 ?f1 ?f2 ?f3 ?fin
 case h4=>simp only[gel];rfl
 case h5=>simp only[gel];rfl
 case h6=>simp only[gel];rfl
 case g4=>rfl
 case g5=>rfl
 case g6=>rfl
 case r0=>kernel_rfl
 case r1=>kernel_rfl
 case r2=>kernel_rfl
 case r3=>kernel_rfl
 case r4=>kernel_rfl
 case r5=>kernel_rfl
 case x4=>go_simp
 case y4=>simp only[psm];go_simp
 case z4=>clear z;simp only[psm];go_simp
 case x5=>exact XJ 251 _ rfl w.heap.size 0 rfl (bl f 256) _ (λj v hv=>az j v hv) u_c rfl (by rw[Y9];exact Py)
 case y5=>exact XJ 251 _ rfl w.heap.size 0 rfl (bl f 256) _ (λj v hv=>az j v hv) u_c rfl (by rw[Y9];exact Py)
 case x6=>rw[z];exact SJ _ rfl f rfl
 case y6=>rw[z];exact SJ _ rfl f rfl
 case z6=>rw[z];exact SJ _ rfl f rfl
 case l1=>kernel_rfl
 case l2=>kernel_rfl
 case l3=>kernel_rfl
 case f1=>simp only[psm];rfl
 case f2=>simp only[psm]
 case f3=>simp only[psm]
 apply We 7 rfl Qk;simp only[ZL,Zw];let⟨D,hD⟩:=nam o.drew.heap.size;rw[<-hD]at V ⊢;have HD:Hid (D=w.heap.size+3):=by show _=_;rw[hD];exact aa.o
 let⟨g2,g3,g1,gB,gN⟩:=ar.o;have l:PC base vh vb nb n hs bh n F f (λ_=>false) w R:=by
  have N4:=gN.below x4;have a6:=HN.o.h.blk;have a7:=HN.o.b.blk;exact⟨N4.c,N4.h,N4.b,N4.ne,g1.block (x4.block _ g1.ltB),g2.block (x4.block _ g2.ltB),g3.block (x4.block _ g3.ltB),(gB.mono Qo).trans (x4.mono (by have:=gB.size;omega)),λk a=>Or.inl (a6 k a).2,λk a=>Or.inl (a7 k a).2⟩
 have aL:base<=R.heap.size:=by have:=l.bw.size;omega
 have aS:R.heap.size=w.heap.size+4:=by
  rw[z];have:=aa.o;show(o.drew.alloc _).heap.size=_;simp[this]
 have aG:=hyd aS;have aU:Hid (∀k,k<w.heap.size->R.heap[k]?=w.heap[k]?):=λk a=>by rw[x4.block k (by have:=aa.o;omega)];exact gB.block k a
 have aX:=hyd l;have aJ:=l.oh;clear c0 a4 az x4 q4 be z hD g1 g2 g3 gB gN ar aa l aS;refine Rv Qr _ _ Qr base vh (UZ n hs) (by rw[aE.o];rfl) aJ (by rw[XB];omega) D f Qr V aL _ rfl ?_;rw[XB];intro g s w5 ac x G bj;have l:=aX.o;have aM:g<w.heap.size\/w.heap.size+3<=g:=by
  rcases G with h|h
  .exact l.nh g h
  have:=aG.o;omega
 have ao:vb.ownBlock≠some g:=by
  rcases G with h|h
  .exact l.ne g h
  intro e;have:=(l.ob.blk g e).2;omega
 have T:=(ac.blk g rfl).1;have J:∀k,k<R.heap.size->vh.ownBlock≠some k->w5.heap[k]?=R.heap[k]?:=λk a ay=>x.block k a (λe=>ay e.symm)
 have d:=l.ct.block (J nb l.ct.lt (λe=>by have:=(l.oh.blk nb e).1;omega));let⟨cx,a5⟩:=d 0 _ rfl;have K5:=d.set 0 Qs (sL g (n+1) s);let⟨B,N⟩:=nam (w5.setCell (a_ nb 0) (sL g (n+1) s));rw[<-N]at K5;have C:∀k,k≠nb->B.heap[k]?=w5.heap[k]?:=λk a=>by rw[N];exact Zq w5 (a_ nb 0) _ k (λe=>a e)
 have a9:=x.size;have aA:=aG.o;have ak:UZ n hs++[f]=UZ (n+1) (λp=>if p=n then f else hs p):=by
  rw[IV];congr 1
  .exact ZO (λp hp=>by
     have:p<n:=by simpa using hp
     rw[g_])
  simp
 rw[ak]at ac;have I:∀k,w.heap.size<=k->k<w.heap.size+3->vh.ownBlock≠some k:=λk h1 h2 e=>by have:=l.nh k e;omega
 have r:PC base (sL g (n+1) s) vb nb (n+1) (λp=>if p=n then f else hs p) bh n F f (λ_=>false) w B:=by
  have B5:Below nb w w5:=l.bw.grown x (by have:=l.bw.size;omega) (λq hq=>by have:=(l.oh.blk q hq).1;omega);refine⟨K5,ac.keep (λk a=>C k (by cases a;show g≠nb;omega)),(l.ob.keep (λk a=>J k (l.ob.blk k a).2 (λe=>l.ne k e a))).keep (λk a=>C k (λe=>by have:=(l.ob.blk k a).1;omega)),λk a=>by cases a;exact ao,?_,?_,?_,?_,λk a=>by cases a;exact aM,l.nv⟩
  .exact(l.st.block (J _ Qo (I _ Qo Qo))).block (C _ Qo)
  .exact(l.zt.block (J _ Qo (I _ Qo Qo))).block (C _ Qo)
  .exact(l.ot.block (J _ Qo (I _ Qo Qo))).block (C _ Qo)
  rw[N];exact B5.setCell (p:=(a_ nb 0)) (Zg _) _
 have aV:Hid (∀k,k<w.heap.size->k≠nb->vh.ownBlock≠some k->B.heap[k]?=w.heap[k]?):=λk h1 h2 h3=>by
  rw[C k h2,J k Qo h3];exact aU k h1
 have HG:Hid (vh.ownBlock=some g\/w.heap.size<=g):=by
  rcases G with h|h
  .exact Or.inl h
  exact Or.inr Qo
 have aY:=hyd r;have aZ:=hyd N;let⟨aI,am,eb,_⟩:=r.ob.at_;rw[XB]at eb;have a1:=hyd eb;have d1:B.cell? (a_ nb 1)=some (.slice aI n am):=by rw[<-eb];exact(r.ct 1 _ rfl).1
 have e1:w5.cell? (a_ nb 1)=some (.slice aI n am):=by rw[<-eb];exact(d 1 _ rfl).1
 have bb:B.heap.size=w5.heap.size:=by rw[N];simp[World.setCell]
 let⟨W7,ai⟩:=nam (B.alloc (.cells (bl (λ_=>false) 104).toArray 135));have x7:Bl B W7:=by rw[ai];exact box_bel _ _
 have X:W7.rangeAt B.heap.size 0 (bl (λ_=>false) 104):=by rw[ai];exact(TC.boxed B _ _).range
 have aK:=r.ob.below x7;have an:base<=W7.heap.size:=by have:=x7.size;omega
 have aD:=hyd ai;have a2:=hyd x7;have a3:Hid (w.heap.size+4<=B.heap.size/\w.heap.size+4=R.heap.size):=⟨Qo,Qo⟩;have au:Hid (base<=g/\g<B.heap.size):=⟨T,Qo⟩;clear l aM G T J d K5 C a9 aA ak I r eb N ai x7 aJ ao V aL bb;clear ac x;go_wp2_with (first|(with_reducible show wpList _ _ _ (⟨_,Op.build 135 _,_,_,_,_⟩::_) _ _;rw[<-aZ.o];apply VT rfl rfl;refine Ya.out ?_));refine⟨?_⟩
 (try simp only[psm])
 apply OE rfl _ rfl (λ_=>false) rfl;rw[<-aD.o]
 (try simp only[psm])
 refine Wz Qr _ _ Qr base vb (UZ n bh) (by rw[a1.o];rfl) aK (by rw[XB];omega) B.heap.size (λ_=>false) Qr X an _ rfl ?_;rw[XB];intro K t Z ae m H aO
 (try simp only[psm])
 have r:=aY.o;have aA:=a3.o;have al:=a2.o;have ax:=au.o;have J:∀k,k<B.heap.size->vb.ownBlock≠some k->Z.heap[k]?=B.heap[k]?:=λk a ay=>by
  rw[m.block k (by have:=al.size;omega) (λe=>ay e.symm)];exact al.block k a
 have bc:W7.heap.size=B.heap.size+1:=by rw[aD.o];simp
 have a8:=(ae.blk K rfl).1;have aN:K<w.heap.size\/w.heap.size+3<=K:=by
  rcases H with h|h
  .exact r.nv K h
  omega
 have d:=r.ct.block (J nb r.ct.lt (λe=>by have:=(r.ob.blk nb e).1;omega));let⟨cx,a5⟩:=d 1 _ rfl;have K9:=d.set 1 Qs (sL K (n+1) t);have Y:∀k,w.heap.size<=k->k<w.heap.size+3->vb.ownBlock≠some k:=λk h1 h2 e=>by have:=r.nv k e;omega
 have T2:=r.ot.block (J _ Qo (Y _ Qo Qo));have T1:=r.zt.block (J _ Qo (Y _ Qo Qo));have aP:nb≠w.heap.size+2:=Qo
 let⟨u1,bn⟩:=T2 (1+n) _ (YO _ Qo);let⟨u2,bo⟩:=T2 (97+n) _ (YO _ Qo);let⟨W9,O⟩:=nam (Z.setCell (a_ nb 1) (sL K (n+1) t));rw[<-O]at K9;have aj:∀k,k≠nb->W9.heap[k]?=Z.heap[k]?:=λk a=>by rw[O];exact Zq Z (a_ nb 1) _ k (λe=>a e)
 have V2:=T2.block (aj (w.heap.size+2) Qo);have V1:=T1.block (aj (w.heap.size+1) Qo);have av:=V2.set (1+n) (by rw[Y9];omega) (.bool true);rw[Vm]at av;have Q:=av.set (97+n) (by rw[Y9];omega) (.bool true);rw[Vm,YW (g:=zp n) (λi _=>by
  unfold zp;by_cases e1:i=97+n
  .simp[e1]
  by_cases e2:i=1+n
  .simp[e2]
  simp[e1,e2])]at Q
 obtain⟨y,u⟩:∃W,W=(W9.setCell (a_ (w.heap.size+2) (1+n)) (.bool true)).setCell (a_ (w.heap.size+2) (97+n)) (.bool true):=⟨_,rfl⟩;rw[<-u]at Q;have E:∀k,k≠w.heap.size+2->y.heap[k]?=W9.heap[k]?:=λk a=>by
  rw[u,Zq _ (a_ (w.heap.size+2) (97+n)) _ k (λe=>a e),Zq _ (a_ (w.heap.size+2) (1+n)) _ k (λe=>a e)]
 have aH:=V1.block (E (w.heap.size+1) Qo);obtain⟨M,hM⟩:∃M,M=bl (zp n) 193:=⟨_,rfl⟩;rw[<-hM]at Q;have ab:M.length=193:=by rw[hM];exact Y9 _ _
 have rM:=Q.range;have tz:=Yc aH;have S:=Y8 (w.heap.size+1) M 0 y;have aQ:=Zo y (w.heap.size+1) 0 M (by rw[ab];exact tz);have U:=ZF (P:=prog) (y.setCells (w.heap.size+1) 0 M) (w.heap.size+1) 0 247 M _ aQ u_b rfl (by rw[ab];exact Y3);obtain⟨WX,aw⟩:∃W,W=y.setCells (w.heap.size+1) 0 M:=⟨_,rfl⟩;rw[<-aw]at S U;have bd:=m.size;have aT:W9.heap.size=Z.heap.size:=by rw[O];simp[World.setCell]
 have aR:y.heap.size=Z.heap.size:=by rw[u];simp[World.setCell,aT]
 have kx:∀k,k<Z.heap.size->k≠w.heap.size+1->k≠w.heap.size+2->k≠nb->WX.heap[k]?=Z.heap[k]?:=λk h0 h1 h2 h3=>by
  rw[S.block k Qo (λe=>h1 (Zh e)),E k h2,aj k h3]
 have ap:∀k,(sL g (n+1) s).ownBlock=some k->(sL K (n+1) t).ownBlock≠some k:=λk a e=>by
  cases a;have e2:K=g:=Zh e;rcases H with h|h
  .rw[e2]at h;exact r.ne g rfl h
  have:=ax.2;omega
 have NX:YB nb base (sL g (n+1) s) (sL K (n+1) t) (n+1) (λp=>if p=n then f else hs p) (λp=>if p=n then (λ_=>false) else bh p) F WX:=by
  have ak:UZ n bh++[λ_=>false]=UZ (n+1) (λp=>if p=n then (λ_=>false) else bh p):=by
   rw[IV];congr 1
   .exact ZO (λp hp=>by
      have:p<n:=by simpa using hp
      rw[g_])
   simp
  rw[ak]at ae;have bf:=r.nh g rfl;refine⟨(K9.block (E nb aP)).block (S.block nb Qo (λe=>by have:=Zh e;omega)),r.oh.keep (λk a=>?_),ae.keep (λk a=>?_),ap⟩
  .cases a;rw[kx g Qo Qo Qo Qo];exact J g ax.2 (λe=>r.ne g rfl e)
  cases a;exact kx K (by have:=aO;omega) Qo Qo Qo
 have FX:NF nb vh vb (sL g (n+1) s) (sL K (n+1) t) w WX:=by
  have B6:=r.bw;have B7:Below nb w W7:=B6.trans (al.mono Qo);have B8:Below nb w Z:=B7.grown m (by have:=B7.size;omega) (λq hq=>by have:=(r.ob.blk q hq).1;omega);have B9:Below nb w W9:=by rw[O];exact B8.setCell (p:=(a_ nb 1)) (Zg _) _
  have aB:Below nb w y:=by
   rw[u];exact(B9.setCell (p:=(a_ (w.heap.size+2) (1+n))) (by show nb<=w.heap.size+2;omega) _).setCell (p:=(a_ (w.heap.size+2) (97+n))) (by show nb<=w.heap.size+2;omega) _
  refine⟨aB.grown S (by have:=aB.size;omega) (λq hq=>by cases hq;omega),λk h1 h2 h3 h4=>?_,λk a=>?_,λk a=>?_⟩
  .rw[kx k Qo Qo Qo h2,J k Qo h4];exact aV k h1 h2 h3
  .cases a;exact HG.o
  cases a;rcases H with h|h
  .exact Or.inl h
  exact Or.inr (by show w.heap.size<=K;omega)
 have a0:=hyd aw;have aC:Hid (y=((Z.setCell (a_ nb 1) (sL K (n+1) t)).setCell (a_ (w.heap.size+2) (1+n)) (.bool true)).setCell (a_ (w.heap.size+2) (97+n)) (.bool true)):=by show _=_;rw[u,O]
 have aF:=hyd U;have aq:=hyd ab;have aW:Hid (M.toArray.all (·.oneCell')=true):=by show _=true;rw[hM];exact YJ _ _
 have HM:=hyd hM;clear r aA al ax J bc a8 aN d K9 Y T2 T1 O aj V2 V1 av Q u E aH hM ab S aQ U aw bd aT aR kx ap ae m H aO X an aK e1 d1;go_wp2_with (first|(with_reducible apply gld 247;rw[show w.heap.size+1+1=w.heap.size+2 from rfl,<-aC.o];refine Zb rfl 247 _ rfl (w.heap.size+2) 0 rfl M _ rM u_b rfl (by rw[aq.o];exact Y3) ?_)|(with_reducible apply gst 247;apply Za rfl 247 _ _ rfl (w.heap.size+1) 0 M.toArray rfl rfl (by simpa[aq.o]using tz) (by simpa[aq.o]using Y3) aW.o;rw[Zc,<-a0.o]));apply Zr (v:=.agg M.toArray) (res_load1 results219 rfl aF.o) rfl;exact⟨_,_,by rw[HM.o],NX,FX⟩
def PA:∃i,prog.info? 78=some i/\i.zero=some (sN)/\i.size=1/\i.bytes=24:=by
 have h1:(prog.info? 78).isSome=true:=Qk
 let⟨i,a⟩:=Zx.1 h1;refine⟨i,a,?_,?_,?_⟩
 .have:((prog.info? 78).bind (·.zero))=some (sN):=Qk
  rw[a]at this;exact this
 .have:((prog.info? 78).map (·.size))=some 1:=Qk
  rw[a]at this;simpa using this
 have:((prog.info? 78).map (·.bytes))=some 24:=Qk
 rw[a]at this;simpa using this
def Qv(n:Nat):List Value:=(List.range n).map λ_=>.slice none 0 0
def GC(w:World)(n:Nat)(z:n<=1000000):(Instr.makeSlice 74 (I6 (n:Int)) (I6 (n:Int))).run prog w=.ok (.slice (some (a_ w.heap.size 0)) n n) (w.alloc (.cells (Qv n).toArray 78)):=by
 let⟨i,b,hz,hs,a⟩:=PA;have h:=run_make (P:=prog) w 74 78 i (sN) u_r b hz .i64 .i64 n n Qo Qo (by rw[a];omega) Qo;rw[hs]at h;simp only[ZE,ff]at h;rw[show(Value.slice none 0 0).cells=#[sN] from rfl,SA]at h;exact h
def t0(N:Nat)(vd:Nat->Int)(i j:Nat):Bool:=Dr N vd i != Dr N vd j
def Qc.first(w:World)(N:Nat)(z:TypeId)(t:Nat->N_):Qc w.heap.size w.heap.size N (λ_=>0) t 0 (w.alloc (.cells (Qv (N+1)).toArray z)):=by
 have T:=TC.boxed w (Qv (N+1)) z;have e:∀i,i<N+1->(Qv (N+1))[i]?=some (sN):=λi a=>by simp[Qv,a]
 exact⟨λi a=>Qo,λi _ a=>(T i _ (e i a)).1,λi a=>(T i _ (e i a)).2,λi a=>Qo,λi j a=>Qo,λi a=>Qo⟩
def yW(N:Nat)(vd:Nat->Int)(i k a b:Nat):Bool:=if a=i then decide (b<k)&&t0 N vd i b else t0 N vd a b
inductive xN (N:Nat) (vd:Nat->Int) (nx:Nat->Nat->Int) (bs:List Nat):Nat->Nat->Prop
 |base {i j:Nat} (hi:i<=N) (hj:j<=N) (h:t0 N vd i j=true):xN N vd nx bs i j
 |step {i j b:Nat} (hi:i<=N) (hj:j<=N) (hb:b∈bs) (h:xN N vd nx bs (Tu N nx i b) (Tu N nx j b)):xN N vd nx bs i j
structure Ou (N:Nat) (vd:Nat->Int) (nx:Nat->Nat->Int) (bs:List Nat) (t:Nat->Nat->Bool):Prop where
 sub:∀i j,i<=N->j<=N->t i j=true->xN N vd nx bs i j
 sym:∀i j,i<=N->j<=N->t i j=t j i
 irr:∀i,i<=N->t i i=false
 base:∀i j,i<=N->j<=N->t0 N vd i j=true->t i j=true
def Ou.first(N:Nat)(vd:Nat->Int)(nx:Nat->Nat->Int)(bs:List Nat):Ou N vd nx bs (t0 N vd):=
 ⟨λ_ _ h1 h2 h=>.base h1 h2 h,λi j _ _=>by simp only[t0];exact bne_comm,λi _=>by simp[t0],λ_ _ _ _ h=>h⟩
def C9(t:Nat->Nat->Bool)(i j:Nat):Nat->Nat->Bool:=y9 (y9 t i j true) j i true
def Tr(t:Nat->N_)(i j a b:Nat):C9 t i j a b=(decide (a=i/\b=j) || decide (a=j/\b=i) || t a b):=by
 unfold C9 y9;by_cases h1:a=j/\b=i
 .simp[h1]
 by_cases h2:a=i/\b=j
 .simp[h2]
 simp[h1,h2]
def Ou.put{vd:Nat->Int}{bs:List Nat}{t:Nat->N_}(h:Ou N vd nx bs t){i j:Nat}(Z:i<=N)(hj:j<=N)(J:i≠j)(H:∀b∈bs,b<256)(Y:∀i b,i<N->b<256->nx i b<N)(z:Vu N nx bs t i j bs.length=true):Ou N vd nx bs (C9 t i j):=by
 unfold Vu at z;rw[gp,fY]at z;let⟨b,k,z⟩:=z;have x1:=NN (λh=>Y i b h (H b k)) Z;have x2:=NN (λh=>Y j b h (H b k)) hj;refine⟨λa c ha d g=>?_,λa c ha d=>?_,λa ha=>?_,λa c ha d g=>?_⟩
 .rw[Tr]at g;by_cases l:a=i/\c=j
  .obtain⟨rfl,rfl⟩:=l;exact .step ha d k (h.sub _ _ x1 x2 z)
  by_cases e2:a=j/\c=i
  .obtain⟨rfl,rfl⟩:=e2;exact .step ha d k (h.sub _ _ x2 x1 (by rw[h.sym _ _ x2 x1];exact z))
  simp only[l,e2,decide_false,dx]at g;exact h.sub a c ha d g
 .rw[Tr,Tr,h.sym a c ha d];congr 1;rw[Bool.or_comm];congr 1
  .simp[and_comm]
  simp[and_comm]
 .rw[Tr,h.irr a ha];have h1:¬(a=i/\a=j):=λ⟨e,f⟩=>J (e▸f)
  have h2:¬(a=j/\a=i):=λ⟨e,f⟩=>J (f▸e)
  simp only[h1,h2,decide_false,dw]
 rw[Tr,h.base a c ha d g,Bool.or_true]
def DM{α:Type}{L:List α}{f g:α->Bool}(h:∀p∈L,f p=true->g p=true){q:α}(z:q∈L)(h1:g q=true)(h2:f q=false):L.countP f<L.countP g:=by
 induction L with
 |nil=>cases z
 |cons x L ih=>
  rw[List.countP_cons,List.countP_cons];have b:L.countP f<=L.countP g:=List.countP_mono_left (λp a=>h p (by simp[a]));rcases ZR.1 z with rfl|z
  .rw[h1,h2];simp;omega
  have:=ih (λp a=>h p (by simp[a])) z;have c:=h x Qs;cases hf:f x<;>cases hg:g x<;>simp_all<;>omega
def xK(N:Nat):List (Nat × Nat):=(List.range (N+1)).flatMap λi=>(List.range (N+1)).map λj=>(i,j)
def Fl:(i,j)∈xK N<->i<=N/\j<=N:=by
 simp[xK];omega
def xJ(N:Nat)(t:Nat->Nat->Bool):Nat:=(xK N).countP λp=>!t p.1 p.2
def xz:Option Value->Bool
 |some (.bool false)=>true
 |_=>false
def opn(N:Nat)(rk:Nat->Nat)(w:World):Nat:=(xK N).countP λp=>xz (w.cell? ⟨rk p.1,p.2,none⟩)
def Qc.opn{base tb N:Nat}{rk:Nat->Nat}{t:Nat->Nat->Bool}{w:World}(h:Qc base tb N rk t (N+1) w):opn N rk w=xJ N t:=by
 unfold Go.Proofs.YtoaaklhpmhjhkaaGreat.opn xJ;refine List.countP_congr (λp a=>?_);obtain⟨i,j⟩:=p;have b:=Fl.1 a;rw[(h.r i (by omega) j _ (YO _ (by omega))).1];cases t i j<;>simp[xz]
def yP{t:Nat->N_}(z:i<=N)(H:j<=N)(h:t i j=false):xJ N (C9 t i j)<xJ N t:=by
 refine DM (q:=(i,j)) (λp b a=>?_) (Fl.2 ⟨z,H⟩) (by simp[h]) (by simp[Tr]);rw[Tr]at a
 revert a
 cases t p.1 p.2<;>simp
def Bg:Value->Nat
 |.bool true=>1
 |_=>0
def zu(N:Nat)(nx:Nat->Nat->Int)(bs:List Nat)(t:Nat->Nat->Bool)(i j:Nat):Prop:=∀a b,b<a->a<=N->(a<i\/(a=i/\b<j))->t a b=false->Vu N nx bs t a b bs.length=false
def DA(pb N:Nat)(vd:Nat->Int)(nx:Nat->Nat->Int)(bs:List Nat)(w:World)(hN:N<=200)(hP:FB pb N vd nx bs w)(hbs:∀(k b:Nat),bs[k]?=some b->b<256)(hl:bs.length<=256)(hnx:∀i b,i<N->b<256->nx i b<N):
  Cp 29 #[.pointer (some ⟨pb,0,none⟩)] w λe w'=>∃rk t,e=.returned (.slice (some ⟨w.heap.size,0,none⟩) (N+1) (N+1))/\Qc w.heap.size w.heap.size N rk t (N+1) w'/\Bl w w'/\Ou N vd nx bs t/\zu N nx bs t (N+1) 0:=by
 have HP:Hid (∀w',Bl w w'->FB pb N vd nx bs w'):=λw' h=>hP.below h
 have Y:Hid (∀(w':World) (i:Nat),Bl w w'->i<=N->Cp 60 #[.pointer (some ⟨pb,0,none⟩),.int .i64 i] w' λe w''=>e=.returned (.int .i64 (Dr N vd i))/\w''=w'):=λw' i h hi=>CB pb N vd nx bs i w' Qo (hP.below h) hi
 have an:Hid (∀(w':World) (t:Nat->Nat->Bool) (i j:Nat),Bl w w'->TB (some ⟨w.heap.size,0,none⟩) N t w'->i<=N->j<=N->Cp 61 #[.pointer (some ⟨pb,0,none⟩),.slice (some ⟨w.heap.size,0,none⟩) (N+1) (N+1),.int .i64 i,.int .i64 j] w' λe w''=>e=.returned (.bool (Vu N nx bs t i j bs.length))/\w''=w'):=λw' t i j h hT h1 h2=>Ek pb N vd nx bs _ _ t i j w' Qo (hP.below h) hT h1 h2 hbs hl hnx
 have aq:Hid (∀b∈bs,b<256):=λb hb=>by
  obtain⟨k,hk,e⟩:=List.getElem_of_mem hb;exact hbs k b (by rw[Zd hk,e])
 have ar:=hyd hnx;clear hbs hnx hl;obtain⟨va,vc,c0,_⟩:=hP.v;have aF:(N:Int)<=200:=Qo
 have I:(Instr.makeSlice 74 (.int .i64 ((N:Int)+1)) (.int .i64 ((N:Int)+1))).run prog w=.ok (.slice (some ⟨w.heap.size,0,none⟩) (N+1) (N+1)) (w.alloc (.cells (Qv (N+1)).toArray 78)):=GC w (N+1) Qo;obtain⟨W1,G⟩:=nam (w.alloc (.cells (Qv (N+1)).toArray 78));rw[<-G]at I;have B1:Bl w W1:=by rw[G];exact box_bel _ _
 have O1:Qc w.heap.size w.heap.size N (λ_=>0) (t0 N vd) 0 W1:=by rw[G];exact Qc.first w N _ _
 have s1:w.heap.size+1<=W1.heap.size:=by rw[G];simp
 clear G hP;go_enter func29,ntmps29;go_wp2_with fail
 go_loopw [5] (λx w'=>∃(i:Nat) (rk:Nat->Nat),i<=N+1/\x=.int .i64 i/\Qc w.heap.size w.heap.size N rk (t0 N vd) i w'/\Bl w w'/\w.heap.size+1<=w'.heap.size) (λx _=>N+1-(intOf x).toNat)
 .exact⟨0,_,Qo,rfl,O1,B1,s1⟩
 clear O1 B1 s1 I c0;obtain⟨i,rk,hi,rfl,O,B,sz⟩:=hrel;by_cases az:i<=N
 .have aD:(i:Int)<=N:=Qo
  have I:(Instr.makeSlice 78 (.int .i64 ((N:Int)+1)) (.int .i64 ((N:Int)+1))).run prog wr=.ok (.slice (some ⟨wr.heap.size,0,none⟩) (N+1) (N+1)) (wr.alloc (.cells (bl (λ_=>false) (N+1)).toArray 4)):=Tm wr (N+1) Qo;have L:=O.row Qo Qo Qo 4;obtain⟨W2,n⟩:=nam (wr.alloc (.cells (bl (λ_=>false) (N+1)).toArray 4));rw[<-n]at I L;have x2:Bl wr W2:=by rw[n];exact box_bel _ _
  have cz:W2.cell? ⟨w.heap.size,i,none⟩=some (.slice none 0 0):=by rw[x2.cell (p:=⟨w.heap.size,i,none⟩) (by show w.heap.size<wr.heap.size;omega)];exact O.z i (Zg _) Qo
  have fz:W2.frozen? ⟨w.heap.size,i,none⟩=false:=by rw[fd (w:=wr) (a:=⟨w.heap.size,i,none⟩) (x2.block _ (by show w.heap.size<wr.heap.size;omega))];exact O.f i Qo
  obtain⟨W3,H⟩:=nam (W2.setCell ⟨w.heap.size,i,none⟩ (.slice (some ⟨wr.heap.size,0,none⟩) (N+1) (N+1)));rw[<-H]at L;have B3:Bl w W3:=by rw[H];exact(B.trans (x2.mono Qo)).setCell (p:=⟨w.heap.size,i,none⟩) (Zg _) _
  have s3:w.heap.size+1<=W3.heap.size:=by rw[H];have:=x2.size;simp;omega
  have O3:=L.congr (t':=yW N vd i 0) (λa b _ _=>by simp[yW]);obtain⟨q,J⟩:∃q:Nat->Nat,q=λa=>if a=i then wr.heap.size else rk a:=⟨_,rfl⟩
  rw[<-J]at O3;have am:q i=wr.heap.size:=by rw[J];simp
  have aE:=hyd am;have ah:=hyd H;clear O L n H J am x2 B sz;go_wp2_with fail;rw[<-ah.out];clear ah cz fz I
  go_loopw [6] (λx w'=>∃k:Nat,k<=N+1/\x=.int .i64 k/\Qc w.heap.size w.heap.size N q (yW N vd i k) (i+1) w'/\Bl w w'/\w.heap.size+1<=w'.heap.size) (λx _=>N+1-(intOf x).toNat)
  .exact⟨0,Qo,rfl,O3,B3,s3⟩
  clear O3 B3 s3;obtain⟨k,hk,rfl,O,B,sz⟩:=hrel;by_cases ay:k<=N
  .have aC:(k:Int)<=N:=Qo
   have av:(i:Int)<N+1:=Qo
   have aI:(k:Int)<N+1:=Qo
   have ct:=O.c i Qo;obtain⟨cr,fr⟩:=O.r i Qo k _ (YO _ Qo);obtain⟨R,Q⟩:=nam (q i);rw[<-Q]at ct cr fr;have L:=O.set (i:=i) (j:=k) Qo Qo (t0 N vd i k);have O3:=L.congr (t':=yW N vd i (k+1)) (λa b _ _=>by
    simp only[y9,yW];by_cases e1:a=i
    .by_cases e2:b=k
     .simp[e1,e2]
     have:decide (b<k+1)=decide (b<k):=by simp;omega
     simp[e1,e2,this]
    simp[e1])
   rw[<-Q]at O3;have ao:=hyd (Y.out wr.drew i B.drew az);have ap:=hyd (Y.out wr.drew k B.drew ay);have af:=hyd O3;have ak:w.heap.size<=R/\R≠w.heap.size:=by rw[Q];have:=O.ne i Qo;exact⟨this.2,this.1⟩
   have HB:Hid (Bl w (wr.setCell ⟨R,k,none⟩ (.bool (t0 N vd i k)))):=B.setCell (p:=⟨R,k,none⟩) ak.1 _;have au:(wr.setCell ⟨R,k,none⟩ (.bool (t0 N vd i k))).cell? ⟨w.heap.size,i,none⟩=some (.slice (some ⟨R,0,none⟩) (N+1) (N+1)):=by
    rw[gq _ _ _ _ (by show R≠w.heap.size;exact ak.2)];exact ct
   clear O L O3 Q B;go_wp2_with fail;have aa:=ct;refine fK (S:=λw'=>w'.cell? ⟨w.heap.size,i,none⟩=some (.slice (some ⟨R,0,none⟩) (N+1) (N+1))) (by kernel_rfl) aa (λhHeld=>?_);refine tQ 0 ?_
   refine tQ 1 ?_
   refine tQ 2 ?_
   refine tQ 3 ?_
   refine tQ 4 ?_
   refine tQ 5 ?_
   refine tQ 6 ?_
   refine tQ 8 ?_
   refine tQ 9 ?_
   refine fL (rs:=[7]) (by kernel_rfl) (by simp) ?_;refine fM (o:=?oZ7) ?hiZ7 (λK P=>?_) fN
   case hiZ7=>simp only[gel];rfl
   go_simp;refine ft ao.out ?_;rintro e w1 ⟨rfl,rfl⟩;go_wp2_with fail;refine P.out _ _ aa (λhHeld=>?_);clear P K
   (try simp only[psm])
   refine fL (rs:=[10]) (by kernel_rfl) (by simp) ?_;refine fM (o:=?oZ10) ?hiZ10 (λK P=>?_) fN
   case hiZ10=>simp only[gel];rfl
   go_simp;refine ft ap.out ?_;rintro e w1 ⟨rfl,rfl⟩;go_wp2_with fail;refine P.out _ _ aa (λhHeld=>?_);clear P K
   (try simp only[psm])
   refine tQ 11 ?_
   refine tQ 12 ?_
   refine fL (rs:=[13]) (by kernel_rfl) (by simp) ?_;refine fM (o:=?oZ13) ?hiZ13 (λK P=>?_) fN
   case hiZ13=>simp only[gel];rfl
   go_simp;refine P.out _ _ au (λhHeld=>?_);clear P K
   (try simp only[psm])
   refine fO (by kernel_rfl) ?_ _;have O4:Qc w.heap.size w.heap.size N q (yW N vd i (k+1)) (i+1) (wr.setCell ⟨R,k,none⟩ (.bool (t0 N vd i k))).drew:=af.out.keep rfl (λ_ _=>rfl);have B4:=HB.out.drew;have s4:w.heap.size+1<=(wr.setCell ⟨R,k,none⟩ (.bool (t0 N vd i k))).drew.heap.size:=by
    show w.heap.size+1<=(wr.setCell ⟨R,k,none⟩ (.bool (t0 N vd i k))).heap.size;simpa using sz
   clear af HB;go_wp2_with fail
   (try simp only[Act.put])
   go_roundw
   .exact⟨k+1,Qo,by go_num,O4,B4,s4⟩
   simp[intOf];omega
  have ab:¬(k:Int)<=N:=Qo
  have ax:k=N+1:=Qo
  subst ax;have O4:=O.congr (t':=t0 N vd) (λa b _ hb=>by
   simp only[yW,hb,decide_true,dL];by_cases e:a=i
   .simp[e]
   simp[e])
  clear O;go_wp2_with fail;go_roundw
  .exact⟨i+1,q,Qo,by go_num,O4,B,sz⟩
  simp[intOf];omega
 have ab:¬(i:Int)<=N:=Qo
 have ac:i=N+1:=Qo
 subst ac;have A0:=Ou.first N vd nx bs;clear Y;go_wp2_with fail
 go_loopw [7] (λx w'=>∃(t:Nat->Nat->Bool) (M:Bool),x=.bool M/\Qc w.heap.size w.heap.size N rk t (N+1) w'/\Ou N vd nx bs t/\(M=false->zu N nx bs t (N+1) 0)/\Bl w w') (λx w'=>2*opn N rk w'+Bg x)
 .exact⟨_,true,rfl,O,A0,(λh=>by cases h),B⟩
 clear O A0 B sz;obtain⟨t,M,rfl,O,A,F,B⟩:=hrel;cases M
 .have s:=hyd (F rfl);clear F;go_wp2_with fail;go_ret;exact⟨rk,t,rfl,O,B,A,s.out⟩
 clear F;obtain⟨OP,aj⟩:=nam (opn N rk wr);have ag:=hyd aj;clear aj;go_wp2_with fail
 go_loopw [7,8] (λm x w'=>∃(t:Nat->Nat->Bool) (M:Bool) (i:Nat),m=.bool M/\x=.int .i64 i/\i<=N+1/\Qc w.heap.size w.heap.size N rk t (N+1) w'/\Ou N vd nx bs t/\(M=false->zu N nx bs t i 0)/\(opn N rk w'+(if M then 1 else 0)<=OP)/\Bl w w') (λ_ x _=>N+1-(intOf x).toNat)
 .exact⟨t,false,0,rfl,rfl,Qo,O,A,(λ_ a b _ _ h=>Qo),by rw[ag.out];simp,B⟩
 clear O A B;obtain⟨t,M,i,rfl,rfl,hi,O,A,F,d,B⟩:=hrel;by_cases ae:i<=N
 .have aA:(i:Int)<=N:=Qo
  have av:(i:Int)<N+1:=Qo
  have s:=hyd F;clear F;go_wp2_with fail
  go_loopw [7,9] (λm x w'=>∃(t:Nat->Nat->Bool) (M:Bool) (j:Nat),m=.bool M/\x=.int .i64 j/\j<=i/\Qc w.heap.size w.heap.size N rk t (N+1) w'/\Ou N vd nx bs t/\(M=false->zu N nx bs t i j)/\(opn N rk w'+(if M then 1 else 0)<=OP)/\Bl w w') (λ_ x _=>i-(intOf x).toNat)
  .exact⟨t,M,0,rfl,rfl,Qo,O,A,s.out,d,B⟩
  clear O A B s d;obtain⟨t,M,j,rfl,rfl,hj,O,A,F,d,B⟩:=hrel;have s:=hyd F;clear F;by_cases aH:j<i
  .have aB:(j:Int)<i:=Qo
   have aG:(j:Int)<N+1:=Qo
   have ci:=O.c i Qo;have cj:=O.c j Qo;obtain⟨cr,fr⟩:=O.r i Qo j _ (YO _ Qo);obtain⟨cs,fs⟩:=O.r j Qo i _ (YO _ Qo);have y:=hyd (an.out wr t i j B O.tb ae Qo);have L:=(O.set (i:=i) (j:=j) Qo Qo true).set (i:=j) (j:=i) Qo Qo true;have B2:Bl w ((wr.setCell ⟨rk i,j,none⟩ (.bool true)).setCell ⟨rk j,i,none⟩ (.bool true)):=(B.setCell (p:=⟨rk i,j,none⟩) (O.ne i Qo).2 _).setCell (p:=⟨rk j,i,none⟩) (O.ne j Qo).2 _;have U:rk i≠rk j:=λe=>by have:=O.inj i j Qo Qo e;omega
   have V:rk i≠w.heap.size:=(O.ne i Qo).1;have C:(wr.setCell ⟨rk i,j,none⟩ (.bool true)).cell? ⟨w.heap.size,j,none⟩=some (.slice (some ⟨rk j,0,none⟩) (N+1) (N+1)):=by
    rw[gq _ _ _ _ (by show rk i≠w.heap.size;exact V)];exact cj
   have D:(wr.setCell ⟨rk i,j,none⟩ (.bool true)).cell? ⟨rk j,i,none⟩=some (.bool (t j i)):=by
    rw[gq _ _ _ _ (by show rk i≠rk j;exact U)];exact cs
   have E:(wr.setCell ⟨rk i,j,none⟩ (.bool true)).frozen? ⟨rk j,i,none⟩=false:=by rw[fw];exact fs
   have l:=hyd L;have T:t i j=false->opn N rk ((wr.setCell ⟨rk i,j,none⟩ (.bool true)).setCell ⟨rk j,i,none⟩ (.bool true))<opn N rk wr:=λh=>by
    rw[l.out.opn,O.opn];exact yP ae Qo h
   have g:=hyd T;obtain⟨R,Q⟩:=nam (rk i);obtain⟨S,hS⟩:=nam (rk j);have HR:=hyd2 Q hS;rw[<-Q]at ci cr fr C D E B2 l g;rw[<-hS]at cj cs fs C D E B2 l g;obtain⟨W2,n⟩:=nam (wr.setCell ⟨R,j,none⟩ (.bool true));rw[<-n]at C D E B2 l g;have Z:=hyd n;have X:=hyd B2;clear L T Q hS U V n B2 cs fs;cases hX:t i j
   .rw[hX]at cr;cases hPp:Vu N nx bs t i j bs.length
    .rw[hPp]at y;have u:Hid (M=false->zu N nx bs t i (j+1)):=λh a b h1 h2 h3 h4=>by
      by_cases e:a=i/\b=j
      .obtain⟨rfl,rfl⟩:=e;exact hPp
      exact s.out h a b h1 h2 Qo h4
     clear s l g X C D E Z hPp hX;go_wp2_with fail;refine y.out.mono ?_;rintro e w' ⟨rfl,rfl⟩;go_wp2_with fail;go_roundw
     .exact⟨t,M,j+1,rfl,by go_num,Qo,O,A,u.out,d,B⟩
     simp[intOf];omega
    rw[hPp]at y;have A2:=A.put ae (show j<=N by omega) Qo aq.out ar.out hPp;have al:=g.out hX;have W:opn N rk (W2.setCell ⟨S,i,none⟩ (.bool true))+1<=OP:=Qo
    have ai:=hyd W;clear s g hPp hX al W A d;go_wp2_with fail;refine y.out.mono ?_;rintro e w' ⟨rfl,rfl⟩;go_wp2_with (first|(with_reducible show wpList _ _ _ ({ dst:=some 93,op:=Op.load _ _,type:=_,pos:=_,after:=_,guard:=_ }::_) _ _;refine Ya.out ?_));refine⟨?_⟩;rw[<-Z.out];go_wp2_with fail;go_roundw
    .exact⟨C9 t i j,true,j+1,rfl,by go_num,Qo,l.out,A2,(λh=>by cases h),by simpa using ai.out,X.out⟩
    simp[intOf];omega
   rw[hX]at cr;have u:Hid (M=false->zu N nx bs t i (j+1)):=λh a b h1 h2 h3 h4=>by
    by_cases e:a=i/\b=j
    .obtain⟨rfl,rfl⟩:=e;rw[hX]at h4;cases h4
    exact s.out h a b h1 h2 Qo h4
   clear s l g X C D E Z y hX;go_wp2_with fail;go_roundw
   .exact⟨t,M,j+1,rfl,by go_num,Qo,O,A,u.out,d,B⟩
   simp[intOf];omega
  have ab:¬(j:Int)<i:=Qo
  have aw:j=i:=Qo
  subst aw;have u:Hid (M=false->zu N nx bs t (j+1) 0):=λh a b h1 h2 h3 h4=>s.out h a b h1 h2 Qo h4
  clear s;go_wp2_with fail;go_roundw
  .exact⟨t,M,j+1,rfl,by go_num,Qo,O,A,u.out,d,B⟩
  simp[intOf];omega
 have ab:¬(i:Int)<=N:=Qo
 have ac:i=N+1:=Qo
 subst ac;have s:=hyd F;clear F;go_wp2_with fail;go_roundw
 .exact⟨t,M,rfl,O,A,s.out,B⟩
 have:=ag.out;cases M<;>simp[Bg]at d ⊢<;>omega
