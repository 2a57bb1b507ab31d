import Derived.Test.YtoaaklhpmhjhkaaGreatC11
import Derived.Test.YtoaaklhpmhjhkaaGreatC16
set_option maxRecDepth 100000
set_option maxHeartbeats 4000000
set_option linter.all false
namespace Go.Proofs.YtoaaklhpmhjhkaaGreat
open Go.Proofs.Tryz
open Go.RowKit
open Bm
open Pg (Pt)
def yT(ps:List Pt):∀op i,QE ps op i=OA (ps.map λp=>p.kd) op i:=by
 induction ps with
 |nil=>intro op i;rfl
 |cons p ps ih=>intro op i;simp only[QE,dt,OA,ih]
def zF(ps:List Pt):∀op i,Wm ps op i=Uo (ps.map λp=>p.kd) op i:=by
 induction ps with
 |nil=>intro op i;rfl
 |cons p ps ih=>intro op i;simp only[Wm,dt,Uo,ih]
variable {a:Act}{ops:Array Oper}{tmps:Array Value}{s:ByteArray}{fn:Func}{fa kd le mo pl:Int}{rest:List Oper}{ps:List Pt}{L xs:List Value}{B D base base' g m m2 n nb size:Nat}{F:N_}{bh bh2 hs hs2:Nat->N_}{op:Oper}{ad:Option Addr}{e:Rx}{v vb vb' vb2 vh vh' vh2:Value}{w w' w'':World}
def CT{f:Nat}{r:List Tq}{rest:List Int}(h:Pp f 1 r e)(z:ps.map (λp=>p.kd)=kds r++rest)(H:rest=[]\/∃t,rest=4::t):QE ps 0 0=r.length:=by
 rw[yT,z,(Im f 1 r e h).2.1 0 0 rest (Or.inr ⟨rfl,Zg _⟩)];rcases H with rfl|⟨t,rfl⟩
 .simp[OA]
 simp[OA]
def CZ(ps:List Pt)(m:Nat):∀(u i:Nat),i<=m->m<u+i->(∀j,i<=j->j<m->∃p,ps[j]?=some p/\Pg.gI p.kd=true)->(∀p,ps[m]?=some p->Pg.gI p.kd=false)->LZ ps u i=m:=by
 intro u
 induction u with
 |zero=>intro i h1 h2;omega
 |succ u ih=>
  intro i h1 h2 h3 d;rw[LZ];by_cases e:i=m
  .subst e;rcases c:ps[i]? with _|p
   .rfl
   simp only[d p c];rfl
  let⟨p,c,hs⟩:=h3 i (Zg _) Qo;rw[c];simp only[hs,dB];exact ih (i+1) Qo Qo (λj a b=>h3 j Qo b) d
def Gt{f:Nat}{t:List Tq}{rest:List Int}(h:Pp f 0 t e)(z:ps.map (λp=>p.kd)=kds t++rest)(H:∀k r,rest=k::r->Pg.gI k=false):Ni ps=t.length:=by
 let⟨m,o,m2,i,l⟩:=(Im f 0 t e h).2.2 rfl;have n:ps.length=t.length+rest.length:=by
  have:=congrArg List.length z;simpa[Oh]using this
 unfold Ni;rw[zF,z,i 0 rest,Zn];have c:∀(j:Nat) (p:Pt),ps[j]?=some p->(kds t++rest)[j]?=some p.kd:=λj p d=>by rw[<-z,fT,d];rfl
 refine CZ ps t.length _ m m2 Qo (λj a b=>?_) (λp d=>?_)
 .have g:j<ps.length:=Qo
  refine⟨ps[j],Zd g,?_⟩;have h1:=c j _ (Zd g);rw[Zv (by rw[Oh];exact b)]at h1;have h2:t[j]∈t.drop m:=by
   rw[List.mem_iff_getElem?];exact⟨j-m,by rw[ez,show m+(j-m)=j by omega];exact Zd b⟩
  have h3:=l _ h2;simp only[kds,fT,Zd b,dX,Zp]at h1;rw[<-h1];unfold X3 at h3;simp only[Pg.gI,dp,dq];omega
 have h1:=c _ p d;rw[ZG (by rw[Oh];omega),Oh,Nat.sub_self]at h1;rcases rest with _|⟨k,r⟩
 .cases h1
 simp at h1;rw[<-h1];exact H k r rfl
def YZ(e:Rx)(n:Nat):Nat->Bool:=λi=>if i=0 then e.nul else if i<97 then e.fst n (i-1) else e.lst n (i-97)
def Uf(hs:Nat->Nat->Bool)(e:Rx)(n:Nat):Nat->Nat->Bool:=λp b=>if p<n then hs p b else e.has n p b
def SO(bh:Nat->Nat->Bool)(e:Rx)(n:Nat):Nat->Nat->Bool:=λp q=>if p<n then bh p q else e.fol n p q
def yG(a b:Rx)(n i:Nat)(z:i<193):jn (YZ a n) (YZ b (n+a.sz)) i=YZ (.cat a b) n i:=by
 unfold jn YZ;by_cases h0:i=0
 .subst h0;simp[Rx.nul]
 by_cases h1:i<97
 .simp[h0,h1,Rx.fst]
 simp[h0,h1,Rx.lst]
def Af(bh:Nat->N_)(a b:Rx)(n p q:Nat)(H:n+a.sz+b.sz<=96)(z:p<n+a.sz+b.sz):
  OY (SO (SO bh a n) b (n+a.sz)) (λp=>YZ a n (97+p)) (λq=>YZ b (n+a.sz) (1+q)) (n+a.sz+b.sz) p q=SO bh (.cat a b) n p q:=by
 unfold OY SO YZ;simp only[z,decide_true,dL,show ∀x:Nat,¬(97+x=0) from λx=>Qo,show ∀x:Nat,¬(97+x<97) from λx=>Qo,show ∀x:Nat,¬(1+x=0) from λx=>Qo,eU,gw];have c:(decide (q<96)&&(if 1+q<97 then b.fst (n+a.sz) q else b.lst (n+a.sz) (1+q-97)))=b.fst (n+a.sz) q:=by
  by_cases h:q<96
  .simp[h,show 1+q<97 by omega]
  simp only[h,decide_false,dy];exact(Rx.fst_lt (Or.inr Qo)).symm
 rw[Bool.and_assoc,c];by_cases h1:p<n
 .rw[p_,dF h1,dF h1,Rx.lst_lt (Or.inl h1)];simp
 by_cases h2:p<n+a.sz
 .rw[dF h2,dG h1,dG h1];simp only[Rx.fol];rw[Rx.fol_lt (e:=b) (Or.inl h2)];simp
 rw[dG h2,dG h1,Rx.lst_lt (Or.inr Qo)];simp only[Rx.fol];rw[Rx.fol_lt (e:=a) (Or.inr (Or.inl Qo)),Rx.lst_lt (e:=a) (Or.inr Qo)];simp
def Fc(hs:Nat->N_)(a b:Rx)(n p c:Nat):Uf (Uf hs a n) b (n+a.sz) p c=Uf hs (.cat a b) n p c:=by
 unfold Uf;by_cases h1:p<n
 .rw[p_,dF h1,dF h1]
 by_cases h2:p<n+a.sz
 .rw[dF h2,dG h1,dG h1];simp only[Rx.has];rw[Rx.has_lt (e:=b) (Or.inl h2),dw]
 rw[dG h2,dG h1];simp only[Rx.has];rw[Rx.has_lt (e:=a) (Or.inr Qo),dx]
def Ex(a b:Rx)(n i:Nat):(YZ a n i || YZ b (n+a.sz) i)=YZ (.alt a b) n i:=by
 unfold YZ;by_cases h0:i=0
 .subst h0;simp[Rx.nul]
 by_cases h1:i<97
 .simp[h0,h1,Rx.fst]
 simp[h0,h1,Rx.lst]
def zG(bh:Nat->N_)(a b:Rx)(n p q:Nat):SO (SO bh a n) b (n+a.sz) p q=SO bh (.alt a b) n p q:=by
 unfold SO;by_cases h1:p<n
 .rw[p_,dF h1,dF h1]
 by_cases h2:p<n+a.sz
 .rw[dF h2,dG h1,dG h1];simp only[Rx.fol];rw[Rx.fol_lt (e:=b) (Or.inl h2),dw]
 rw[dG h2,dG h1];simp only[Rx.fol];rw[Rx.fol_lt (e:=a) (Or.inr (Or.inl Qo)),dx]
def zZ(hs:Nat->N_)(a b:Rx)(n p c:Nat):Uf (Uf hs a n) b (n+a.sz) p c=Uf hs (.alt a b) n p c:=Fc hs a b n p c
def IQ(bh:Nat->N_)(a:Rx)(n p q:Nat)(H:n+a.sz<=96)(z:p<n+a.sz):
  OY (SO bh a n) (λp=>YZ a n (97+p)) (λq=>YZ a n (1+q)) (n+a.sz) p q=SO bh (.star a) n p q:=by
 unfold OY SO YZ;simp only[z,decide_true,dL,show ∀x:Nat,¬(97+x=0) from λx=>Qo,show ∀x:Nat,¬(97+x<97) from λx=>Qo,show ∀x:Nat,¬(1+x=0) from λx=>Qo,eU,gw];have b:(decide (q<96)&&(if 1+q<97 then a.fst n q else a.lst n (1+q-97)))=a.fst n q:=by
  by_cases h:q<96
  .simp[h,show 1+q<97 by omega]
  simp only[h,decide_false,dy];exact(Rx.fst_lt (Or.inr Qo)).symm
 rw[Bool.and_assoc,b];by_cases h1:p<n
 .rw[dF h1,dF h1,Rx.lst_lt (Or.inl h1)];simp
 rw[dG h1,dG h1];rfl
def zf(ad:Option Addr)(nb:Nat)(vh vb:Value)(w:World):Prop:=∀g o i,ad=some ⟨g,o,i⟩->g<w.heap.size/\g≠nb/\vh.ownBlock≠some g/\vb.ownBlock≠some g
def zf.nf(h:zf ad nb vh vb w)(f:NF nb vh vb vh' vb' w w'):zf ad nb vh' vb' w':=λg o i e=>by
 let⟨h1,h2,h3,a⟩:=h g o i e;have hs:=f.b.size;refine⟨Qo,h2,λx=>?_,λx=>?_⟩
 .rcases f.oh g x with h|h
  .exact h3 h
  omega
 rcases f.ob g x with h|h
 .exact a h
 omega
def zf.sub(h:zf ad nb vh vb w)(cap l:Nat):zf (OC ad cap l) nb vh vb w:=λg o i e=>by
 unfold OC at e;split at e
 .exact h g o i e
 rcases ad with _|⟨a,c,b⟩
 .cases e
 simp only[dX,Zp]at e;have:(Addr.add ⟨a,c,b⟩ (l*261)).block=a:=by unfold Addr.add;split<;>rfl
 rw[e]at this;simp only at this;subst this;exact h g c b rfl
def PS.nf(h:PS ad ps w)(s:zf ad nb vh vb w)(f:NF nb vh vb vh' vb' w w'):PS ad ps w':=h.keep (λg o e=>by
 let⟨h1,h2,h3,a⟩:=s g o none e;exact f.k g h1 h2 h3 a)
structure Sr (nb base:Nat) (vh vb:Value) (n:Nat) (hs bh:Nat->Nat->Bool) (F:Nat->Bool) (ad:Option Addr) (cap:Nat) (ps:List Pt) (w:World):Prop where
 net:YB nb base vh vb n hs bh F w
 lnb:nb<base
 bw:base<=w.heap.size
 prt:PS ad ps w
 len:ps.length<=100
 lcap:ps.length<=cap
 sep:zf ad nb vh vb w
def Vz(nb base:Nat)(vh vb:Value)(n:Nat)(hs bh:Nat->Nat->Bool)(F:Nat->Bool)(e:Rx)(w:World)(en:Ending)(w':World):Prop:=
 ∃vh' vb',en=.returned (.agg (bl (YZ e n) 193).toArray)/\YB nb base vh' vb' (n+e.sz) (Uf hs e n) (SO bh e n) F w'/\NF nb vh vb vh' vb' w w'
def Pj(fn:Nat)(k f:Nat):Prop:=∀(ts:List Tq) (e:Rx) (ps:List Pt) (ad:Option Addr) (cap nb base:Nat) (vh vb:Value) (n:Nat) (hs bh:Nat->Nat->Bool) (F:Nat->Bool) (w:World),Pp f k ts e->XK Sm ps ts->Sr nb base vh vb n hs bh F ad cap ps w->n+e.sz<=96->(∀p∈ps,0<=p.mo/\p.mo<=9) ->
 Calls prog fn #[.pointer (some ⟨nb,0,none⟩),.slice ad ps.length cap] w (Vz nb base vh vb n hs bh F e w)
def PH(n i:Nat)(z:i<193):YZ .eps n i=Rt i:=by
 unfold YZ Rt;by_cases h0:i=0
 .subst h0;rfl
 simp[h0,Rx.fst,Rx.lst]
def Gg(h:YB nb base vh vb n hs bh F w):YB nb base vh vb (n+Rx.eps.sz) (Uf hs .eps n) (SO bh .eps n) F w:=
 YB.congr (show YB nb base vh vb (n+0) hs bh F w from h) (λp q a _=>by unfold Uf;rw[dF (by simpa[Rx.sz]using a)]) (λp q a _=>by unfold SO;rw[dF (by simpa[Rx.sz]using a)])
structure RW (nb base:Nat) (vh vb vh' vb':Value) (n:Nat) (hs bh:Nat->Nat->Bool) (F:Nat->Bool) (E:Rx) (w w':World) (A B:Nat):Prop where
 net:YB nb base vh' vb' (n+E.sz) (Uf hs E n) (SO bh E n) F w'
 nf:NF nb vh vb vh' vb' w w'
 a:TC A (bl (fun _=>false) 193) w'
 b:TC B (bl (YZ E n) 193) w'
 o1:∀k,vh'.ownBlock=some k->k<A\/B<k
 o2:∀k,vb'.ownBlock=some k->k<A\/B<k
structure RC (nb base:Nat) (w:World) (A B:Nat):Prop where
 g1:nb<A
 g2:A<B
 g4:A=w.heap.size
 g7:nb<base
 g8:base<=w.heap.size
def RW.call{E:Rx}{A:Nat}(h:RW nb base vh vb vh' vb' n hs bh F E w w' A B)(c:RC nb base w A B)(z:NF nb vh' vb' vh2 vb2 w' w''):
  TC A (bl (λ_=>false) 193) w''/\TC B (bl (YZ E n) 193) w''/\NF nb vh vb vh2 vb2 w w''/\(∀k,vh2.ownBlock=some k->k<A\/B<k)/\(∀k,vb2.ownBlock=some k->k<A\/B<k):=by
 have f:=c.g1;have g:=c.g2;have i:=h.b.ltB;refine⟨h.a.block (z.k A Qo Qo (λe=>by have:=h.o1 A e;omega) (λe=>by have:=h.o2 A e;omega)),h.b.block (z.k B Qo Qo (λe=>by have:=h.o1 B e;omega) (λe=>by have:=h.o2 B e;omega)),h.nf.trans z,λk d=>?_,λk d=>?_⟩
 .rcases z.oh k d with e|e
  .exact h.o1 k e
  exact Or.inr Qo
 rcases z.ob k d with e|e
 .exact h.o2 k e
 exact Or.inr Qo
def Uw(w:World)(f:N_):TC w.heap.size (bl f 193) ((w.alloc (.cells (bl (λ_=>false) 193).toArray 247)).setCells w.heap.size 0 (bl f 193))/\Bl w ((w.alloc (.cells (bl (λ_=>false) 193).toArray 247)).setCells w.heap.size 0 (bl f 193))/\((w.alloc (.cells (bl (λ_=>false) 193).toArray 247)).setCells w.heap.size 0 (bl f 193)).heap.size=w.heap.size+1:=by
 have T:=TC.boxed w (bl (λ_=>false) 193) 247;have x:=box_bel w (.cells (bl (λ_=>false) 193).toArray 247);have a:=Y8 w.heap.size (bl f 193) 0 (w.alloc (.cells (bl (λ_=>false) 193).toArray 247));refine⟨?_,x.grown a x.size (λq b=>by cases b;omega),by rw[Uj];simp⟩;have:=T.setPart 0 193 f Qo;rw[YW (g:=f) (λi c=>by unfold Xi;rw[p_];rfl)]at this;exact this
variable {e2:Rx}
def RW.step{E:Rx}{J H:World}{A:Nat}(c:RC nb base w A B)(hA:TC A (bl (λ_=>false) 193) J)(hB:TC B (bl (YZ E n) 193) J)(hf:NF nb vh vb vh2 vb2 w J)(Y:∀k,vh2.ownBlock=some k->k<A\/B<k)(Z:∀k,vb2.ownBlock=some k->k<A\/B<k)
  (aa:YB nb base vh2 vb2 (n+E.sz+e2.sz) (Uf (Uf hs E n) e2 (n+E.sz)) (OY (SO (SO bh E n) e2 (n+E.sz)) (λp=>YZ E n (97+p)) (λq=>YZ e2 (n+E.sz) (1+q)) (n+E.sz+e2.sz)) F H) (z:NF nb vh2 vb2 vh2 vb2 J H) (hn:n+E.sz+e2.sz<=96):
  H.there B 0 193/\RW nb base vh vb vh2 vb2 n hs bh F (.cat E e2) w (H.setCells B 0 (bl (jn (YZ E n) (YZ e2 (n+E.sz))) 193)) A B:=by
 have o:=c.g1;have r:=c.g2;have s:=c.g4;have j:=hB.ltB;have d:=hA.block (z.k A Qo Qo (λe=>by have:=Y A e;omega) (λe=>by have:=Z A e;omega));have TB:=hB.block (z.k B Qo Qo (λe=>by have:=Y B e;omega) (λe=>by have:=Z B e;omega));have a:=Y8 B (bl (jn (YZ E n) (YZ e2 (n+E.sz))) 193) 0 H;refine⟨Yc TB,?_⟩;have h:=aa.mine a Qo (λe=>by have:=Y B e;omega) (λe=>by have:=Z B e;omega);have f:=(hf.trans z).mine a Qo Qo;have b:(Rx.cat E e2).sz=E.sz+e2.sz:=rfl;refine⟨?_,f,d.block (a.block A d.ltB (λe=>by have:=Zh e;omega)),?_,Y,Z⟩
 .rw[b,<-ZN];exact h.congr (λp q _ _=>Fc hs E e2 n p q) (λp q m _=>Af bh E e2 n p q hn m)
 have:=TB.setPart 0 193 (jn (YZ E n) (YZ e2 (n+E.sz))) Qo;rw[YW (g:=YZ (.cat E e2) n) (λi l=>by unfold Xi;rw[p_];exact yG E e2 n i l)]at this;exact this
def FJ(f:Nat)(hP:Pj 210 0 f)(ts:List Tq)(e:Rx)(ps:List Pt)(ad:Option Addr)(cap nb base:Nat)(vh vb:Value)(n:Nat)(hs bh:Nat->N_)(F:N_)(le mo:Nat)(w:World)(hp:Pp f 0 ts e)(hb:XK Sm ps ts)(aQ:Sr nb base vh vb n hs bh F ad cap ps w)(hn:n+mo*e.sz<=96)(aR:∀p∈ps,0<=p.mo/\p.mo<=9)(aT:mo<=9)(aS:le<=9):
  Cp 220 #[pT nb,.slice ad ps.length cap,I6 le,I6 mo] w (Vz nb base vh vb n hs bh F (Rx.rowOf (Rx.copies e le mo)) w):=by
 have hz:=Wg;have aP:=aQ.net.c.lt;let⟨A,hA⟩:=nam w.heap.size;let⟨W1,ab⟩:=nam (w.alloc (.cells (bl (λ_=>false) 193).toArray 247));have T1:=TC.boxed w (bl (λ_=>false) 193) 247;have x1:=box_bel w (.cells (bl (λ_=>false) 193).toArray 247);rw[<-ab]at T1 x1;rw[<-hA]at T1;have HA:=hyd hA;have Y:=hyd ab;have HP:=hyd hP;have Hp:=hyd hp;have Hb:=hyd hb;have m:=hyd aQ;have aG:=hyd aR;have aH:=hyd2 x1 T1;have Hn:=hyd hn;clear hP hp hb aQ aR hA ab T1 x1 hn;go_enter func220,ntmps220;go_wp2_with fail;rw[<-Y.o];apply ft (SD W1);rintro en w1 ⟨rfl,D⟩;let⟨s,o,b3⟩:=Uw w1 Rt;have az:(w1.alloc (.cells (bl (λ_=>false) 193).toArray 247)).there w1.heap.size 0 193:=Yc (TC.boxed w1 _ _);let⟨B,hB⟩:=nam w1.heap.size;let⟨L0,J⟩:=nam (bl Rt 193);let⟨W2,L⟩:=nam ((w1.alloc (.cells (bl (λ_=>false) 193).toArray 247)).setCells w1.heap.size 0 (bl Rt 193));rw[<-L]at s o b3;rw[<-J]at L ⊢;have U:Hid (L0.length=193):=by show _=_;rw[J];exact Y9 _ _
 have aj:Hid (L0.toArray.all (·.oneCell')=true):=by show _=true;rw[J];exact YJ _ _
 have al:=hyd L;let⟨y1,y2⟩:=aH.o;have ay:=HA.o;have aL:=D.size;have au:W1.heap.size=A+1:=by rw[Y.o,HA.o];simp
 have C:RC nb base w A B:=⟨Qo,Qo,ay,m.o.lnb,m.o.bw⟩;have S0:RW nb base vh vb vh vb n hs bh F (Rx.rowOf (Rx.copies e le 0)) w W2 A B:=by
  have P:=m.o;have hN:=((P.net.below y1).below D).below o;have h1:=P.net.h.blk;have h2:=P.net.b.blk;refine⟨Gg hN,((NF.of vh vb Qo y1).trans (NF.of vh vb Qo D)).trans (NF.of vh vb Qo o),(y2.block (D.block _ y2.ltB)).block (o.block A Qo),?_,λk hk=>Or.inl (by have:=(h1 k hk).2;omega),λk hk=>Or.inl (by have:=(h2 k hk).2;omega)⟩;rw[<-hB]at s;show TC B (bl (YZ Rx.eps n) 193) W2;rw[YW (g:=Rt) (λi hi=>PH n i hi)];exact s
 have H:=hyd C;have HB:=hyd hB;have aN:(mo:Int)<=9:=Qo
 clear s o b3 hB J L y1 y2 ay aL au C Y D;go_wp2_with (first|(with_reducible apply gst 247;apply Za rfl 247 _ _ rfl w1.heap.size 0 L0.toArray rfl rfl (by simpa[U.o]using az) (by simpa[U.o]using Y3) aj.o;rw[Zc,<-al.o]));rw[<-HB.o,<-HA.o];clear U aj al az
 go_loopw [10] (λx w'=>∃(i:Nat) (vh' vb':Value),x=I6 i/\i<=mo/\RW nb base vh vb vh' vb' n hs bh F (Rx.rowOf (Rx.copies e le i)) w w' A B) (λx _=>mo-(intOf x).toNat)
 .exact⟨0,vh,vb,rfl,Qo,S0⟩
 clear S0;obtain⟨i,vh',vb',rfl,hi,S⟩:=hrel;by_cases aK:i<mo
 .have aM:(i:Int)<mo:=Qo
  let⟨E,hE⟩:=nam (Rx.rowOf (Rx.copies e le i));rw[<-hE]at S;have aq:E.sz=i*e.sz:=by rw[hE];exact Rx.copies_sz e le i
  have O:(i+1)*e.sz<=mo*e.sz:=ZQ _ aK;rw[dQ,Nat.one_mul,<-aq]at O;have l:n+E.sz+e.sz<=96:=by have:=Hn.o;omega
  have HE:Hid (Rx.rowOf (Rx.copies e le (i+1))=.cat E (if i<le then e else .opt e)):=by show _=_;rw[Rx.copies_succ,Rx.rowOf_snoc,<-hE]
  clear hE aq O;have P:=m.o;have G:Sr nb base vh' vb' (n+E.sz) (Uf hs E n) (SO bh E n) F ad cap ps wr:=⟨S.net,P.lnb,by have:=S.nf.b.size;have:=P.bw;omega,P.prt.nf P.sep S.nf,P.len,P.lcap,P.sep.nf S.nf⟩;have ai:=HP.o ts e ps ad cap nb base vh' vb' (n+E.sz) (Uf hs E n) (SO bh E n) F wr Hp Hb G l aG.o;have aC:Hid (Cp 210 #[pT nb,.slice ad ps.length cap] wr (Vz nb base vh' vb' (n+E.sz) (Uf hs E n) (SO bh E n) F e wr)):=ai;clear ai G P;go_wp2_with fail;apply aC.o.mono;rintro en w3 ⟨vh2,vb2,rfl,N3,F3⟩;let⟨TA,TB,Z,o1,o2⟩:=S.call H F3;let⟨s,o,b3⟩:=Uw w3 (YZ e (n+E.sz));have aA:(w3.alloc (.cells (bl (λ_=>false) 193).toArray 247)).there w3.heap.size 0 193:=Yc (TC.boxed w3 _ _);let⟨L3,K⟩:=nam (bl (YZ e (n+E.sz)) 193);let⟨W4,N⟩:=nam ((w3.alloc (.cells (bl (λ_=>false) 193).toArray 247)).setCells w3.heap.size 0 (bl (YZ e (n+E.sz)) 193));rw[<-N]at s o b3;rw[<-K]at N ⊢;have I:Hid (L3.length=193):=by show _=_;rw[K];exact Y9 _ _
  have ak:Hid (L3.toArray.all (·.oneCell')=true):=by show _=true;rw[K];exact YJ _ _
  have am:=hyd N;have Q:=N3.c.lt;have UA:=TA.block (o.block A TA.ltB);have UB:=TB.block (o.block B TB.ltB);have ap:=TB.ltB;have N4:=N3.below o;have F4:=Z.trans (NF.of vh2 vb2 Qo o);have aB:=Z.b.size;have af:=N3.h.blk;have ag:=N3.b.blk;have ao:=H.o.g2;let⟨c1,aI⟩:=s 0 _ (YO _ Qo);clear K N TA TB N3 Z S F3;have ah:∀u,Bl w3 W4->W4.grownBy (W4.setCell (a_ w3.heap.size 0) u) (some w3.heap.size):=λu _=>Y8 w3.heap.size [u] 0 W4
  by_cases av:i<le
  .have aw:¬((le:Int)<=i):=Qo
   rw[dF av]at HE;have T:=hyd (Rj nb base vh2 vb2 (n+E.sz+e.sz) _ _ F (YZ E n) (YZ e (n+E.sz)) W4 N4 H.o.g7 l);have X:=hyd3 UA UB F4;have rB:=UB.range;have rC:=s.range;have Ho:=hyd2 o1 o2;clear UA UB N4 F4 s o b3 ap aB af ag ao ah o1 o2 Q c1 aI;go_wp2_with (first|(with_reducible apply gst 247;apply Za rfl 247 _ _ rfl w3.heap.size 0 L3.toArray rfl rfl (by simpa[I.o]using aA) (by simpa[I.o]using Y3) ak.o;rw[Zc,<-am.o])|(with_reducible apply gld 247;refine Zb rfl 247 _ rfl B 0 rfl (bl (YZ E n) 193) _ rB u_b rfl (by rw[Y9];exact Y3) ?_)|(with_reducible apply gld 247;refine Zb rfl 247 _ rfl w3.heap.size 0 rfl (bl (YZ e (n+E.sz)) 193) _ rC u_b rfl (by rw[Y9];exact Y3) ?_));apply T.o.mono;rintro en w6 ⟨rfl,N6,F6⟩;let⟨t,y,z⟩:=X.o;let⟨tB,R⟩:=RW.step (e2:=e) H.o t y z Ho.o.1 Ho.o.2 N6 F6 l;rw[<-HE.o]at R;let⟨L6,d⟩:=nam (bl (jn (YZ E n) (YZ e (n+E.sz))) 193);rw[<-d]at R ⊢;have r:Hid (L6.length=193):=by show _=_;rw[d];exact Y9 _ _
   have W:Hid (L6.toArray.all (·.oneCell')=true):=by show _=true;rw[d];exact YJ _ _
   clear d N6 F6 t y z rB rC;go_wp2_with (first|(with_reducible apply gst 247;apply Za rfl 247 _ _ rfl B 0 L6.toArray rfl rfl (by simpa[r.o]using tB) (by simpa[r.o]using Y3) W.o;rw[Zc]));go_roundw
   .exact⟨i+1,vh2,vb2,Qg,Qo,R⟩
   simp[intOf];omega
  have aw:(le:Int)<=i:=Qo
  rw[dG av]at HE;have b5:=s.set 0 (by rw[Y9];omega) (.bool true);rw[Vm,YW (g:=YZ (.opt e) (n+E.sz)) (λj _=>by
   unfold YZ;by_cases h0:j=0
   .simp[h0,Rx.nul]
   simp[h0,Rx.fst,Rx.lst])]at b5
  have g5:=ah (.bool true) o;let⟨W5,ac⟩:=nam (W4.setCell (a_ w3.heap.size 0) (.bool true));rw[<-ac]at b5 g5;have aE:=hyd ac;have VA:=UA.block (g5.block A UA.ltB (λx=>by have:=Zh x;omega));have VB:=UB.block (g5.block B UB.ltB (λx=>by have:=Zh x;omega));have N5:=N4.mine g5 Qo (λx=>by have:=(af _ x).2;omega) (λx=>by have:=(ag _ x).2;omega);have F5:=F4.mine g5 Qo Qo;clear ac g5;have T:=hyd (Rj nb base vh2 vb2 (n+E.sz+e.sz) _ _ F (YZ E n) (YZ (.opt e) (n+E.sz)) W5 N5 H.o.g7 l);have X:=hyd3 VA VB F5;have rB:=VB.range;have rC:=b5.range;have Ho:=hyd2 o1 o2;clear UA UB N4 F4 VA VB N5 F5 s o b3 b5 ap aB af ag ao ah o1 o2 Q;go_wp2_with (first|(with_reducible apply gst 247;apply Za rfl 247 _ _ rfl w3.heap.size 0 L3.toArray rfl rfl (by simpa[I.o]using aA) (by simpa[I.o]using Y3) ak.o;rw[Zc,<-am.o])|(with_reducible apply gld 247;rw[<-aE.o];refine Zb rfl 247 _ rfl B 0 rfl (bl (YZ E n) 193) _ rB u_b rfl (by rw[Y9];exact Y3) ?_)|(with_reducible apply gld 247;refine Zb rfl 247 _ rfl w3.heap.size 0 rfl (bl (YZ (.opt e) (n+E.sz)) 193) _ rC u_b rfl (by rw[Y9];exact Y3) ?_));apply T.o.mono;rintro en w6 ⟨rfl,N6,F6⟩;let⟨t,y,z⟩:=X.o;let⟨tB,R⟩:=RW.step (e2:=.opt e) H.o t y z Ho.o.1 Ho.o.2 N6 F6 l;rw[<-HE.o]at R;let⟨L6,d⟩:=nam (bl (jn (YZ E n) (YZ (.opt e) (n+E.sz))) 193);rw[<-d]at R ⊢;have r:Hid (L6.length=193):=by show _=_;rw[d];exact Y9 _ _
  have W:Hid (L6.toArray.all (·.oneCell')=true):=by show _=true;rw[d];exact YJ _ _
  clear d N6 F6 t y z rB rC;go_wp2_with (first|(with_reducible apply gst 247;apply Za rfl 247 _ _ rfl B 0 L6.toArray rfl rfl (by simpa[r.o]using tB) (by simpa[r.o]using Y3) W.o;rw[Zc]));go_roundw
  .exact⟨i+1,vh2,vb2,Qg,Qo,R⟩
  simp[intOf];omega
 have aO:¬(i:Int)<mo:=Qo
 have aJ:i=mo:=Qo
 subst aJ;have ax:=S.b.range;have tA:=Yc S.a;let⟨M,hM⟩:=nam (bl (YZ (Rx.rowOf (Rx.copies e le i)) n) 193);rw[<-hM]at ax;have ar:M.length=193:=by rw[hM];exact Y9 _ _
 have aa:=Y8 A M 0 wr;have q:=Nw S.a (YZ (Rx.rowOf (Rx.copies e le i)) n);rw[<-hM]at q;have a1:=H.o.g1;have a2:=H.o.g2;have a4:=H.o.g4;have NX:=S.net.mine aa Qo (λx=>by have:=S.o1 A x;omega) (λx=>by have:=S.o2 A x;omega);have FX:=S.nf.mine aa Qo Qo;let⟨WX,ae⟩:=nam (wr.setCells A 0 M);rw[<-ae]at q NX FX;have aF:=hyd ae;have an:=hyd q;have V:=hyd ar;have aD:Hid (M.toArray.all (·.oneCell')=true):=by show _=true;rw[hM];exact YJ _ _
 have HM:=hyd hM;clear hM ar aa q ae a1 a2 a4 S;go_wp2_with (first|(with_reducible apply gld 247;refine Zb rfl 247 _ rfl B 0 rfl M _ ax u_b rfl (by rw[V.o];exact Y3) ?_)|(with_reducible apply gst 247;apply Za rfl 247 _ _ rfl A 0 M.toArray rfl rfl (by simpa[V.o]using tA) (by simpa[V.o]using Y3) aD.o;rw[Zc,<-aF.o]));apply Zr (v:=.agg M.toArray) (res_load1 results220 rfl an.o) rfl;exact⟨vh',vb',by rw[HM.o],NX,FX⟩
def yg:Value->Nat
 |.slice _ n _=>n
 |_=>0
variable {ts:List Tq}
def Rr{f:Nat}(h:Pp f 0 ts e):∃q r,ts=q::r/\(q.t.kd=1\/q.t.kd=2):=by
 let⟨_,F,a,_,_⟩:=Sq f 0 ts e h;exact(a rfl).2
def CU{f:Nat}{L:List (List Tq × Rx)}(h:∀x∈L,Pp f 0 x.1 x.2):∀k r,kds (L.map (·.1)).flatten=k::r->Pg.gI k=false:=by
 intro k r a;rcases L with _|⟨x,L⟩
 .simp[kds]at a
 let⟨q,c,b,e2⟩:=Rr (h x Qs);rw[dt,eW,UM,b]at a;simp[kds]at a;rw[<-a.1];rcases e2 with e2|e2<;>(rw[e2];rfl)
def yU(f:Nat)(hP:Pj 210 0 f)(L:List (List Tq × Rx))(ps:List Pt)(ad:Option Addr)(cap nb base:Nat)(vh vb:Value)(n:Nat)(hs bh:Nat->N_)(F:N_)(w:World)(hL:∀x∈L,Pp f 0 x.1 x.2)(hb:XK Sm ps (L.map (·.1)).flatten)(a0:Sr nb base vh vb n hs bh F ad cap ps w)(hn:n+(Rx.rowOf (L.map (·.2))).sz<=96)(a3:∀p∈ps,0<=p.mo/\p.mo<=9):
  Cp 199 #[pT nb,.slice ad ps.length cap] w (Vz nb base vh vb n hs bh F (Rx.rowOf (L.map (·.2))) w):=by
 have hz:=Wg;have aY:=a0.net.c.lt;let⟨A,hA⟩:=nam w.heap.size;let⟨W1,ah⟩:=nam (w.alloc (.cells (bl (λ_=>false) 193).toArray 247));have T1:=TC.boxed w (bl (λ_=>false) 193) 247;have x1:=box_bel w (.cells (bl (λ_=>false) 193).toArray 247);rw[<-ah]at T1 x1;rw[<-hA]at T1;have HA:=hyd hA;have ac:=hyd ah;have HP:=hyd hP;have Hb:=hyd hb;have m:=hyd a0;have D:=hyd a3;have aR:=hyd2 x1 T1;have Hn:=hyd hn;have HL:=hyd hL;clear hP hL hb a0 a3 hA ah T1 x1 hn;go_enter func199,ntmps199;go_wp2_with fail;rw[<-ac.o];apply ft (SD W1);rintro en w1 ⟨rfl,s⟩;let⟨X,z,b3⟩:=Uw w1 Rt;have aI:(w1.alloc (.cells (bl (λ_=>false) 193).toArray 247)).there w1.heap.size 0 193:=Yc (TC.boxed w1 _ _);let⟨B,hB⟩:=nam w1.heap.size;let⟨L0,J⟩:=nam (bl Rt 193);let⟨W2,O⟩:=nam ((w1.alloc (.cells (bl (λ_=>false) 193).toArray 247)).setCells w1.heap.size 0 (bl Rt 193));rw[<-O]at X z b3;rw[<-J]at O ⊢;have aa:Hid (L0.length=193):=by show _=_;rw[J];exact Y9 _ _
 have ao:Hid (L0.toArray.all (·.oneCell')=true):=by show _=true;rw[J];exact YJ _ _
 have ap:=hyd O;let⟨y1,y2⟩:=aR.o;have aH:=HA.o;have aV:=y1.size;have aW:=s.size;have aA:W1.heap.size=A+1:=by rw[ac.o,HA.o];simp
 have C:RC nb base w A B:=⟨Qo,Qo,aH,m.o.lnb,m.o.bw⟩;have S0:RW nb base vh vb vh vb n hs bh F (Rx.rowOf (([]:List (List Tq × Rx)).map (·.2))) w W2 A B:=by
  have P:=m.o;have hN:=((P.net.below y1).below s).below z;have h1:=P.net.h.blk;have h2:=P.net.b.blk;refine⟨Gg hN,((NF.of vh vb Qo y1).trans (NF.of vh vb Qo s)).trans (NF.of vh vb Qo z),(y2.block (s.block _ y2.ltB)).block (z.block A Qo),?_,λk hk=>Or.inl (by have:=(h1 k hk).2;omega),λk hk=>Or.inl (by have:=(h2 k hk).2;omega)⟩;rw[<-hB]at X;show TC B (bl (YZ Rx.eps n) 193) W2;rw[YW (g:=Rt) (λi hi=>PH n i hi)];exact X
 have HC:=hyd C;have HB:=hyd hB;clear X z b3 hB J O y1 y2 aH aV aW aA C ac s;go_wp2_with (first|(with_reducible apply gst 247;apply Za rfl 247 _ _ rfl w1.heap.size 0 L0.toArray rfl rfl (by simpa[aa.o]using aI) (by simpa[aa.o]using Y3) ao.o;rw[Zc,<-ap.o]));rw[<-HB.o,<-HA.o];clear aa ao ap aI
 (try simp only[Act.put])
 go_loopw [1] (λx w'=>∃(V I:List (List Tq × Rx)) (o:Option Addr) (d:Nat) (j:List Pt) (vh' vb':Value),x=.slice o j.length d/\Hid (L=V++I)/\Hid (XK Sm j (I.map (·.1)).flatten)/\Hid (Sr nb base vh vb n hs bh F o d j w)/\Hid (∀p∈j,0<=p.mo/\p.mo<=9)/\RW nb base vh vb vh' vb' n hs bh F (Rx.rowOf (V.map (·.2))) w w' A B) (λx _=>yg x)
 .exact⟨[],L,ad,cap,ps,vh,vb,rfl,rfl,Hb,m,D,S0⟩
 clear S0 Hb m D;obtain⟨V,I,o,d,j,vh',vb',rfl,y,Hb,m,D,S⟩:=hrel;rcases I with _|⟨⟨l,t⟩,I⟩
 .have aT:j.length=0:=by have:=Hb.o.len;simpa using this
  have aS:L=V:=by have:=y.o;simpa using this
  subst aS;have hq:¬((0:Int)<(j.length:Int)):=Qo
  have aG:=S.b.range;have tA:=Yc S.a;let⟨M,hM⟩:=nam (bl (YZ (Rx.rowOf (L.map (·.2))) n) 193);rw[<-hM]at aG;have az:M.length=193:=by rw[hM];exact Y9 _ _
  have ag:=Y8 A M 0 wr;have u:=Nw S.a (YZ (Rx.rowOf (L.map (·.2))) n);rw[<-hM]at u;have a1:=HC.o.g1;have a2:=HC.o.g2;have a4:=HC.o.g4;have NX:=S.net.mine ag Qo (λx=>by have:=S.o1 A x;omega) (λx=>by have:=S.o2 A x;omega);have FX:=S.nf.mine ag Qo Qo;let⟨WX,ai⟩:=nam (wr.setCells A 0 M);rw[<-ai]at u NX FX;have aP:=hyd ai;have aq:=hyd u;have ab:=hyd az;have aM:Hid (M.toArray.all (·.oneCell')=true):=by show _=true;rw[hM];exact YJ _ _
  have HM:=hyd hM;clear hM az ag u ai a1 a2 a4 S aT;go_wp2_with (first|(with_reducible apply gld 247;refine Zb rfl 247 _ rfl B 0 rfl M _ aG u_b rfl (by rw[ab.o];exact Y3) ?_)|(with_reducible apply gst 247;apply Za rfl 247 _ _ rfl A 0 M.toArray rfl rfl (by simpa[ab.o]using tA) (by simpa[ab.o]using Y3) aM.o;rw[Zc,<-aP.o]));apply Zr (v:=.agg M.toArray) (res_load1 results199 rfl aq.o) rfl;exact⟨vh',vb',by rw[HM.o],NX,FX⟩
 have Z:∀x∈I,Pp f 0 x.1 x.2:=λx hx=>HL.o x (by rw[y.o];simp[hx])
 have U:Pp f 0 l t:=HL.o (l,t) (by rw[y.o];simp);have T:XK Sm j (l++(I.map (·.1)).flatten):=Hb.o;let⟨aB,aC⟩:=XK.split _ _ _ T;have Y:=T.len;rw[Zl]at Y;have aX:0<l.length:=by let⟨q,r,e,_⟩:=Rr U;rw[e];simp
 have aE:Ni j=l.length:=Gt U (by rw[T.kds,UM]) (CU Z);have P:=m.o;have hq:(0:Int)<(j.length:Int):=Qo
 have au:Hid (Cp 209 #[.slice o j.length d] wr λe w'=>e=.returned (I6 (l.length:Nat))/\Bl wr w'):=by
  have:=Kf o d j wr P.len (P.prt.nf P.sep S.nf);rw[aE]at this;exact this
 let⟨E,hE⟩:=nam (Rx.rowOf (V.map (·.2)));rw[<-hE]at S;have HE:Hid (Rx.rowOf ((V++[(l,t)]).map (·.2))=.cat E t):=by show _=_;rw[eK,hE];exact Rx.rowOf_snoc _ _
 have H:n+E.sz+t.sz<=96:=by
  have h1:=Hn.o;rw[y.o,Rx.rowOf_sz]at h1;rw[hE,Rx.rowOf_sz];simp at h1 ⊢;omega
 have G:=P.lcap;have aZ:=P.len;have an:Hid (∀W,NF nb vh vb vh' vb' w W->YB nb base vh' vb' (n+E.sz) (Uf hs E n) (SO bh E n) F W->Cp 210 #[pT nb,.slice (OC o d 0) (l.length-0) (d-0)] W (Vz nb base vh' vb' (n+E.sz) (Uf hs E n) (SO bh E n) F t W)):=λW hf hN=>by
  have h1:(j.take l.length).length=l.length-0:=by rw[eE];omega
  have h2:=P.prt.nf P.sep hf;have h3:=h2.sub (cap:=d) 0 l.length Qo G;rw[Zw]at h3;have:=HP.o l t (j.take l.length) (OC o d 0) (d-0) nb base vh' vb' (n+E.sz) (Uf hs E n) (SO bh E n) F W U aB ⟨hN,P.lnb,by have:=hf.b.size;have:=P.bw;omega,h3,Qo,Qo,(P.sep.nf hf).sub _ _⟩ H (λp hp=>D.o p (fZ hp));rw[h1]at this;exact this
 have af:Hid (Sr nb base vh vb n hs bh F (OC o d l.length) (d-l.length) (j.drop l.length) w):=by
  have h3:=P.prt.sub (cap:=d) l.length (j.length-l.length) Qo G;rw[fR (by rw[dY];omega)]at h3;exact⟨P.net,P.lnb,P.bw,h3,by rw[dY];omega,by rw[dY];omega,P.sep.sub _ _⟩
 have aQ:=hyd aC;have am:Hid (L=(V++[(l,t)])++I):=by show _=_;rw[y.o];simp
 have ar:Hid (∀p∈j.drop l.length,0<=p.mo/\p.mo<=9):=λp hp=>D.o p (List.mem_of_mem_drop hp)
 have ae:Hid ((j.drop l.length).length=j.length-l.length):=by show _=_;rw[dY]
 have aF:l.length<=j.length:=Qo
 clear hE Z U T aB aC Y aE P Hb m y;go_wp2_with fail;apply au.o.mono;rintro en w1 ⟨rfl,s⟩;have S1:RW nb base vh vb vh' vb' n hs bh F E w w1 A B:=⟨S.net.below s,S.nf.trans (NF.of _ _ (by have:=S.net.c.lt;omega) s),S.a.block (s.block _ S.a.ltB),S.b.block (s.block _ S.b.ltB),S.o1,S.o2⟩;have aj:=hyd (an w1 S1.nf S1.net);clear an au S s;go_wp2_with (first|(with_reducible show wpList _ _ _ (⟨_,Op.slice 194 _ _ _ _,_,_,_,_⟩::_) _ _;refine VS rfl _ _ _ rfl o j.length d rfl 0 l.length (Or.inl ⟨rfl,rfl⟩) (Or.inr ⟨_,rfl,rfl⟩) Qo Qo ?_));apply aj.o.mono;rintro en w3 ⟨vh2,vb2,rfl,N3,F3⟩;let⟨TA,TB,av,o1,o2⟩:=S1.call HC F3;let⟨X,z,b3⟩:=Uw w3 (YZ t (n+E.sz));have aU:(w3.alloc (.cells (bl (λ_=>false) 193).toArray 247)).there w3.heap.size 0 193:=Yc (TC.boxed w3 _ _);let⟨L3,K⟩:=nam (bl (YZ t (n+E.sz)) 193);let⟨W4,Q⟩:=nam ((w3.alloc (.cells (bl (λ_=>false) 193).toArray 247)).setCells w3.heap.size 0 (bl (YZ t (n+E.sz)) 193));rw[<-Q]at X z b3;rw[<-K]at Q ⊢;have ak:Hid (L3.length=193):=by show _=_;rw[K];exact Y9 _ _
 have aK:Hid (L3.toArray.all (·.oneCell')=true):=by show _=true;rw[K];exact YJ _ _
 have aO:=hyd Q;have aD:=N3.c.lt;have UA:=TA.block (z.block A TA.ltB);have UB:=TB.block (z.block B TB.ltB);have N4:=N3.below z;have F4:=av.trans (NF.of vh2 vb2 Qo z);have aJ:=hyd (Rj nb base vh2 vb2 (n+E.sz+t.sz) _ _ F (YZ E n) (YZ t (n+E.sz)) W4 N4 HC.o.g7 H);have aN:=hyd3 UA UB F4;have rB:=UB.range;have rC:=X.range;have Ho:=hyd2 o1 o2;clear UA UB N4 F4 X z b3 o1 o2 aD K Q TA TB N3 av S1 F3 aj;go_wp2_with (first|(with_reducible apply gst 247;apply Za rfl 247 _ _ rfl w3.heap.size 0 L3.toArray rfl rfl (by simpa[ak.o]using aU) (by simpa[ak.o]using Y3) aK.o;rw[Zc,<-aO.o])|(with_reducible apply gld 247;refine Zb rfl 247 _ rfl B 0 rfl (bl (YZ E n) 193) _ rB u_b rfl (by rw[Y9];exact Y3) ?_)|(with_reducible apply gld 247;refine Zb rfl 247 _ rfl w3.heap.size 0 rfl (bl (YZ t (n+E.sz)) 193) _ rC u_b rfl (by rw[Y9];exact Y3) ?_));apply aJ.o.mono;rintro en w6 ⟨rfl,N6,F6⟩;let⟨aw,ax,ay⟩:=aN.o;let⟨tB,R⟩:=RW.step (e2:=t) HC.o aw ax ay Ho.o.1 Ho.o.2 N6 F6 H;rw[<-HE.o]at R;let⟨L6,N⟩:=nam (bl (jn (YZ E n) (YZ t (n+E.sz))) 193);rw[<-N]at R ⊢;have al:Hid (L6.length=193):=by show _=_;rw[N];exact Y9 _ _
 have aL:Hid (L6.toArray.all (·.oneCell')=true):=by show _=true;rw[N];exact YJ _ _
 clear N N6 F6 aw ax ay rB rC;go_wp2_with (first|(with_reducible apply gst 247;apply Za rfl 247 _ _ rfl B 0 L6.toArray rfl rfl (by simpa[al.o]using tB) (by simpa[al.o]using Y3) aL.o;rw[Zc])|(with_reducible show wpList _ _ _ (⟨_,Op.slice 194 _ _ _ _,_,_,_,_⟩::_) _ _;refine VS rfl _ _ _ rfl o j.length d rfl l.length j.length (Or.inr ⟨_,rfl,rfl⟩) (Or.inl ⟨rfl,rfl⟩) aF G ?_));go_roundw
 .exact⟨V++[(l,t)],I,OC o d l.length,d-l.length,j.drop l.length,vh2,vb2,by rw[ae.o],am,aQ,af,ar,R⟩
 simp[yg];omega
structure RA (nb base:Nat) (vh vb vh' vb':Value) (m:Nat) (hs bh:Nat->Nat->Bool) (F:Nat->Bool) (w w':World) (A:Nat):Prop where
 net:YB nb base vh' vb' m hs bh F w'
 nf:NF nb vh vb vh' vb' w w'
 a:TC A (bl (fun _=>false) 193) w'
 o1:∀k,vh'.ownBlock=some k->k<A\/A<k
 o2:∀k,vb'.ownBlock=some k->k<A\/A<k
def RA.below{A:Nat}(h:RA nb base vh vb vh' vb' m hs bh F w w' A)(z:Bl w' w''):RA nb base vh vb vh' vb' m hs bh F w w'' A:=
 ⟨h.net.below z,h.nf.trans (NF.of _ _ (by have:=h.net.c.lt;omega) z),h.a.block (z.block _ h.a.ltB),h.o1,h.o2⟩
def RA.call{A:Nat}(h:RA nb base vh vb vh' vb' m hs bh F w w' A)(J:nb<A)(H:YB nb base vh2 vb2 m2 hs2 bh2 F w'')(z:NF nb vh' vb' vh2 vb2 w' w''):RA nb base vh vb vh2 vb2 m2 hs2 bh2 F w w'' A:=by
 have ha:=h.a.ltB;refine⟨H,h.nf.trans z,h.a.block (z.k A ha Qo (λe=>by have:=h.o1 A e;omega) (λe=>by have:=h.o2 A e;omega)),λk b=>?_,λk b=>?_⟩
 .rcases z.oh k b with e|e
  .exact h.o1 k e
  exact Or.inr Qo
 rcases z.ob k b with e|e
 .exact h.o2 k e
 exact Or.inr Qo
def RA.done{A:Nat}(h:RA nb base vh vb vh' vb' m hs bh F w w' A)(J:nb<A)(H:w.heap.size<=A)(z:nb<w.heap.size)(f:N_):
  (loadVar 247 (a_ A 0)).run prog (w'.setCells A 0 (bl f 193))=.ok (.agg (bl f 193).toArray) (w'.setCells A 0 (bl f 193))/\YB nb base vh' vb' m hs bh F (w'.setCells A 0 (bl f 193))/\NF nb vh vb vh' vb' w (w'.setCells A 0 (bl f 193))/\w'.there A 0 193:=by
 have b:=Y8 A (bl f 193) 0 w';exact⟨Nw h.a f,h.net.mine b Qo (λe=>by have:=h.o1 A e;omega) (λe=>by have:=h.o2 A e;omega),h.nf.mine b H z,Yc h.a⟩
def Dk(f:Nat)(hR:Pj 199 1 f)(hW:Pj 173 2 f):Pj 173 2 (f+1):=by
 intro ts e ps ad cap nb base vh vb n hs bh F w hp hb a hn aa;have hz:=Wg;have aw:=a.net.c.lt;let⟨A,hA⟩:=nam w.heap.size;let⟨W1,Y⟩:=nam (w.alloc (.cells (bl (λ_=>false) 193).toArray 247));have T1:=TC.boxed w (bl (λ_=>false) 193) 247;have x1:=box_bel w (.cells (bl (λ_=>false) 193).toArray 247);rw[<-Y]at T1 x1;rw[<-hA]at T1;have R1:RA nb base vh vb vh vb n hs bh F w W1 A:=by
  have h1:=a.net.h.blk;have h2:=a.net.b.blk;exact⟨a.net.below x1,NF.of vh vb Qo x1,T1,λk Z=>Or.inl (by have:=(h1 k Z).2;omega),λk Z=>Or.inl (by have:=(h2 k Z).2;omega)⟩
 obtain⟨r,rest,d,hr,l,az⟩:∃(r rest:List Tq) (d:Rx),Pp f 1 r d/\((rest=[]/\e=d)\/∃b q e2,rest=b::q/\b.t.kd=4/\Pp f 2 q e2/\e=.alt d e2)/\ts=r++rest:=by
  rcases hp with h|⟨r,b,q,d,e2,k1,_,k3,k4,k5,k6⟩
  .exact⟨ts,[],e,h,Or.inl ⟨rfl,rfl⟩,Qs⟩
  exact⟨r,b::q,d,k4,Or.inr ⟨b,q,e2,rfl,k3,k5,k6⟩,k1⟩
 rw[az]at hb;let⟨ar,s⟩:=XK.split _ _ _ hb;have G:=hb.len;rw[Zl]at G;have ax:QE ps 0 0=r.length:=CT hr (by rw[hb.kds,UM]) (by
  rcases l with ⟨h,_⟩|⟨b,q,_,h,h4,_⟩
  .exact Or.inl (by rw[h];rfl)
  exact Or.inr ⟨kds q,by rw[h];simp[kds,h4]⟩)
 have H:d.sz<=e.sz:=by
  rcases l with ⟨_,h⟩|⟨_,_,e2,_,_,_,h⟩
  .rw[h];exact Zg _
  rw[h];simp[Rx.sz]
 have E:=a.lcap;have aO:=a.len;have aj:Hid (Cp 198 #[.slice ad ps.length cap] W1 λen w'=>en=.returned (I6 (r.length:Nat))/\Bl W1 w'):=by
  have:=Gx ad cap ps W1 aO (a.prt.below x1);rw[ax]at this;exact this
 have O:Hid (∀W,NF nb vh vb vh vb w W->YB nb base vh vb n hs bh F W->Cp 199 #[pT nb,.slice (OC ad cap 0) (r.length-0) (cap-0)] W (Vz nb base vh vb n hs bh F d W)):=λW hf hN=>by
  have h1:(ps.take r.length).length=r.length-0:=by rw[eE];omega
  have h3:=(a.prt.nf a.sep hf).sub (cap:=cap) 0 r.length Qo E;rw[Zw]at h3;have:=hR r d (ps.take r.length) (OC ad cap 0) (cap-0) nb base vh vb n hs bh F W hr ar ⟨hN,a.lnb,by have:=hf.b.size;have:=a.bw;omega,h3,Qo,Qo,(a.sep.nf hf).sub _ _⟩ Qo (λp hp=>aa p (fZ hp));rw[h1]at this;exact this
 have HA:=hyd hA;have ak:=hyd Y;have ah:=hyd R1;have ao:=hyd a;have U:=hyd l;have aJ:=hyd s;have aK:=hyd aa;have aI:=hyd hW;have Hn:=hyd hn;have Q:=hyd G;have aS:r.length<=ps.length:=Qo
 have N:nb<A:=Qo
 clear hR hW hp hb a hn aa hA Y T1 x1 R1 hr l az ar s G ax H;go_enter func173,ntmps173;go_wp2_with fail;rw[<-ak.o];apply aj.o.mono;rintro en w1 ⟨rfl,ap⟩;have R2:=ah.o.below ap;have aE:=hyd (O.o w1 R2.nf R2.net);rw[<-HA.o];clear aj O ah ak ap;go_wp2_with (first|(with_reducible show wpList _ _ _ (⟨_,Op.slice 194 _ _ _ _,_,_,_,_⟩::_) _ _;refine VS rfl _ _ _ rfl ad ps.length cap rfl 0 r.length (Or.inl ⟨rfl,rfl⟩) (Or.inr ⟨_,rfl,rfl⟩) Qo Qo ?_));apply aE.o.mono;rintro en w3 ⟨vh2,vb2,rfl,N3,F3⟩;have R3:=R2.call N N3 F3;let⟨C,I,V⟩:=Uw w3 (YZ d n);have ay:(w3.alloc (.cells (bl (λ_=>false) 193).toArray 247)).there w3.heap.size 0 193:=Yc (TC.boxed w3 _ _);let⟨L3,m⟩:=nam (bl (YZ d n) 193);let⟨W4,D⟩:=nam ((w3.alloc (.cells (bl (λ_=>false) 193).toArray 247)).setCells w3.heap.size 0 (bl (YZ d n) 193));rw[<-D]at C I V;rw[<-m]at D ⊢;have j:Hid (L3.length=193):=by show _=_;rw[m];exact Y9 _ _
 have z:Hid (L3.toArray.all (·.oneCell')=true):=by show _=true;rw[m];exact YJ _ _
 have al:=hyd D;have ae:=hyd m;have R:=R3.below I;rw[<-m]at C;have rB:=C.range;have K:=HA.o;rcases U with ⟨h0,he⟩|⟨b,q,e2,h0,aQ,hq,he⟩
 .subst he;have ab:ps.length=r.length:=by have:=Q.o;rw[h0]at this;simpa using this
  have aN:(ps.length:Int)<=(r.length:Int):=Qo
  let⟨J,S,X,d4⟩:=R.done N Qo aw (YZ e n);rw[<-m]at J S X;let⟨WX,o⟩:=nam (W4.setCells A 0 L3);rw[<-o]at J S X;have T:=hyd o;have B:=hyd J;clear m D C I V R2 R3 R K o J N3 F3 h0 ab;go_wp2_with (first|(with_reducible apply gst 247;apply Za rfl 247 _ _ rfl w3.heap.size 0 L3.toArray rfl rfl (by simpa[j.o]using ay) (by simpa[j.o]using Y3) z.o;rw[Zc,<-al.o])|(with_reducible apply gld 247;refine Zb rfl 247 _ rfl w3.heap.size 0 rfl L3 _ rB u_b rfl (by rw[j.o];exact Y3) ?_)|(with_reducible apply gst 247;apply Za rfl 247 _ _ rfl A 0 L3.toArray rfl rfl (by simpa[j.o]using d4) (by simpa[j.o]using Y3) z.o;rw[Zc,<-T.o]));apply Zr (v:=.agg L3.toArray) (res_load1 results173 rfl B.o) rfl;exact⟨vh2,vb2,by rw[ae.o],S,X⟩
 have ab:ps.length=r.length+(q.length+1):=by have:=Q.o;rw[h0]at this;simpa using this
 have aN:¬((ps.length:Int)<=(r.length:Int)):=Qo
 have s:=aJ.o;rw[h0]at s;have au:XK Sm (ps.drop (r.length+1)) q:=by
  generalize hd:ps.drop r.length=dd at s;cases s with
  |cons h t=>
   rw[<-eC,hd];exact t
 have P:=ao.o;have H:e.sz=d.sz+e2.sz:=by rw[he];rfl
 have av:n+d.sz+e2.sz<=96:=by have:=Hn.o;omega
 have ac:Hid (Cp 173 #[pT nb,.slice (OC ad cap (r.length+1)) (ps.length-(r.length+1)) (cap-(r.length+1))] W4 (Vz nb base vh2 vb2 (n+d.sz) (Uf hs d n) (SO bh d n) F e2 W4)):=by
  have h1:(ps.drop (r.length+1)).length=ps.length-(r.length+1):=by rw[dY]
  have h3:=(P.prt.nf P.sep R.nf).sub (cap:=cap) (r.length+1) (ps.length-(r.length+1)) Qo E;rw[fR (by rw[dY];omega)]at h3;have:=aI.o q e2 (ps.drop (r.length+1)) (OC ad cap (r.length+1)) (cap-(r.length+1)) nb base vh2 vb2 (n+d.sz) (Uf hs d n) (SO bh d n) F W4 hq au ⟨R.net,P.lnb,by have:=R.nf.b.size;have:=P.bw;omega,h3,Qo,Qo,(P.sep.nf R.nf).sub _ _⟩ av (λp hp=>aK.o p (List.mem_of_mem_drop hp));rw[h1]at this;exact this
 have ai:=hyd R;have am:=hyd2 C V;have an:Hid ((∀k,vh2.ownBlock=some k->k<w3.heap.size)/\(∀k,vb2.ownBlock=some k->k<w3.heap.size)/\nb<w3.heap.size):=⟨λk Z=>(N3.h.blk k Z).2,λk Z=>(N3.b.blk k Z).2,N3.c.lt⟩;have He:=hyd he;have aR:(r.length:Int)+1<=100:=Qo
 have aM:r.length+1<=ps.length:=Qo
 clear D C I V R2 R3 R K N3 F3 h0 s au P H he hq rB m ab;go_wp2_with (first|(with_reducible apply gst 247;apply Za rfl 247 _ _ rfl w3.heap.size 0 L3.toArray rfl rfl (by simpa[j.o]using ay) (by simpa[j.o]using Y3) z.o;rw[Zc,<-al.o])|(with_reducible show wpList _ _ _ (⟨_,Op.slice 194 _ _ _ _,_,_,_,_⟩::_) _ _;refine Ya.out ?_)
  )
 refine⟨?_⟩
 (try simp only[psm])
 refine VS rfl _ _ _ rfl ad ps.length cap rfl (r.length+1) ps.length (Or.inr ⟨_,rfl,(by show Value.int .i64 ((r.length:Int)+1)=Value.int .i64 ((r.length+1:Nat):Int);simp)⟩) (Or.inl ⟨rfl,rfl⟩) aM E ?_;go_wp2_with fail;apply ac.o.mono;rintro en w5 ⟨aC,aB,rfl,N5,F5⟩;have R5:=ai.o.call N N5 F5;let⟨c1,c2⟩:=am.o;let⟨q1,q2,q3⟩:=an.o;have tB:=c1.block (F5.k w3.heap.size Qo Qo (λx=>by have:=q1 _ x;omega) (λx=>by have:=q2 _ x;omega));have aL:=F5.b.size;let⟨C,I,V⟩:=Uw w5 (YZ e2 (n+d.sz));have aP:(w5.alloc (.cells (bl (λ_=>false) 193).toArray 247)).there w5.heap.size 0 193:=Yc (TC.boxed w5 _ _);let⟨L5,u⟩:=nam (bl (YZ e2 (n+d.sz)) 193);let⟨W6,L⟩:=nam ((w5.alloc (.cells (bl (λ_=>false) 193).toArray 247)).setCells w5.heap.size 0 (bl (YZ e2 (n+d.sz)) 193));rw[<-L]at C I V;rw[<-u]at L ⊢;have y:Hid (L5.length=193):=by show _=_;rw[u];exact Y9 _ _
 have ag:Hid (L5.toArray.all (·.oneCell')=true):=by show _=true;rw[u];exact YJ _ _
 have aH:=hyd L;have R6:=R5.below I;have aA:=tB.block (I.block w3.heap.size Qo);rw[<-u]at C;have rB:=aA.range;have rC:=C.range;have aD:Hid (Cp 200 #[.agg L3.toArray,.agg L5.toArray] W6 λen w'=>en=.returned (.agg (bl (YZ e n) 193).toArray)/\Bl W6 w'):=by
  have:=FP (YZ d n) (YZ e2 (n+d.sz)) W6;rw[<-ae.o,<-u,YW (g:=YZ e n) (λi _=>by rw[He.o];exact Ex d e2 n i)]at this;exact this
 have aG:=hyd R6;clear u L C I V R5 R6 tB aA N5 F5 c1 c2 q1 q2 q3 aL ai ac an am;go_wp2_with (first|(with_reducible apply gst 247;apply Za rfl 247 _ _ rfl w5.heap.size 0 L5.toArray rfl rfl (by simpa[y.o]using aP) (by simpa[y.o]using Y3) ag.o;rw[Zc,<-aH.o])|(with_reducible apply gld 247;refine Zb rfl 247 _ rfl w3.heap.size 0 rfl L3 _ rB u_b rfl (by rw[j.o];exact Y3) ?_)|(with_reducible apply gld 247;refine Zb rfl 247 _ rfl w5.heap.size 0 rfl L5 _ rC u_b rfl (by rw[y.o];exact Y3) ?_));apply aD.o.mono;rintro en w7 ⟨rfl,aq⟩;have R7:=aG.o.below aq;have K:=HA.o;let⟨J,S,X,d4⟩:=R7.done N Qo aw (YZ e n);let⟨M,hM⟩:=nam (bl (YZ e n) 193);rw[<-hM]at J S X ⊢;let⟨WX,o⟩:=nam (w7.setCells A 0 M);rw[<-o]at J S X;have T:=hyd o;have B:=hyd J;have af:Hid (M.length=193):=by show _=_;rw[hM];exact Y9 _ _
 have aF:Hid (M.toArray.all (·.oneCell')=true):=by show _=true;rw[hM];exact YJ _ _
 have HM:=hyd hM;have NX:YB nb base aC aB (n+e.sz) (Uf hs e n) (SO bh e n) F WX:=by
  have H:(Rx.alt d e2).sz=d.sz+e2.sz:=rfl;rw[He.o,H,<-ZN];exact S.congr (λp q _ _=>zZ hs d e2 n p q) (λp q _ _=>zG bh d e2 n p q)
 clear hM o J S R7 K rB rC aq;go_wp2_with (first|(with_reducible apply gst 247;apply Za rfl 247 _ _ rfl A 0 M.toArray rfl rfl (by simpa[af.o]using d4) (by simpa[af.o]using Y3) aF.o;rw[Zc,<-T.o]));apply Zr (v:=.agg M.toArray) (res_load1 results173 rfl B.o) rfl;exact⟨aC,aB,by rw[HM.o],NX,X⟩
def Yz.tc{f:N_}(h:Yz g kd pl f le mo fa w):TC g (YY kd pl f le mo fa) w:=λk v a=>by
 have b:k<261:=by have:=(Zi.1 a).1;rw[XX]at this;exact this
 have h1:=h.at_ k v a;rw[Zn]at h1;exact⟨h1,h.fr k b⟩
structure RD (nb base:Nat) (vh vb vh' vb':Value) (m:Nat) (hs bh:Nat->Nat->Bool) (F:Nat->Bool) (L:List Value) (w w':World) (A D:Nat):Prop where
 net:YB nb base vh' vb' m hs bh F w'
 nf:NF nb vh vb vh' vb' w w'
 a:TC A (bl (fun _=>false) 193) w'
 d:TC D L w'
 dl:D<w'.heap.size
 o1:∀k,vh'.ownBlock=some k->k<A\/D<k
 o2:∀k,vb'.ownBlock=some k->k<A\/D<k
def RD.ra{A:Nat}(h:RD nb base vh vb vh' vb' m hs bh F L w w' A D)(z:A<D):RA nb base vh vb vh' vb' m hs bh F w w' A:=
 ⟨h.net,h.nf,h.a,λk b=>by have:=h.o1 k b;omega,λk b=>by have:=h.o2 k b;omega⟩
def RD.below{A:Nat}(h:RD nb base vh vb vh' vb' m hs bh F L w w' A D)(z:Bl w' w''):RD nb base vh vb vh' vb' m hs bh F L w w'' A D:=
 ⟨h.net.below z,h.nf.trans (NF.of _ _ (by have:=h.net.c.lt;omega) z),h.a.block (z.block _ h.a.ltB),h.d.block (z.block _ h.dl),by have:=z.size;have:=h.dl;omega,h.o1,h.o2⟩
def RD.call{A:Nat}(h:RD nb base vh vb vh' vb' m hs bh F L w w' A D)(J:nb<A)(Y:A<D)(H:YB nb base vh2 vb2 m2 hs2 bh2 F w'')(z:NF nb vh' vb' vh2 vb2 w' w''):RD nb base vh vb vh2 vb2 m2 hs2 bh2 F L w w'' A D:=by
 have ha:=h.a.ltB;have f:=h.dl;have hs:=z.b.size;refine⟨H,h.nf.trans z,h.a.block (z.k A ha Qo (λe=>by have:=h.o1 A e;omega) (λe=>by have:=h.o2 A e;omega)),h.d.block (z.k D f Qo (λe=>by have:=h.o1 D e;omega) (λe=>by have:=h.o2 D e;omega)),Qo,λk c=>?_,λk c=>?_⟩
 .rcases z.oh k c with e|e
  .exact h.o1 k e
  exact Or.inr Qo
 rcases z.ob k c with e|e
 .exact h.o2 k e
 exact Or.inr Qo
def RD.mine{A C:Nat}(h:RD nb base vh vb vh' vb' m hs bh F L w w' A D)(J:nb<A)(Z:A<D)(hw:w.heap.size<=A)(H:nb<w.heap.size)(Y:D<C)(h1:∀k,vh'.ownBlock=some k->k≠C)(h2:∀k,vb'.ownBlock=some k->k≠C)(z:w'.grownBy w'' (some C)):RD nb base vh vb vh' vb' m hs bh F L w w'' A D:=
 ⟨h.net.mine z Qo (λe=>h1 _ e rfl) (λe=>h2 _ e rfl),h.nf.mine z Qo H,h.a.block (z.block A h.a.ltB (λe=>by have:=Zh e;omega)),h.d.block (z.block D h.dl (λe=>by have:=Zh e;omega)),by have:=z.size;have:=h.dl;omega,h.o1,h.o2⟩
def Gu{f:Nat}(h:Pp f 0 ts e)(h0:e.sz=0):e=.eps:=by
 rcases f with _|f
 .exact absurd h (by simp[Pp])
 unfold Pp at h;rcases h with ⟨q,_,_,_,rfl⟩|⟨_,_,_,e0,_,_,_,_,_,_,rfl⟩|⟨_,_,e0,_,_,_,_,rfl⟩
 .simp[Rx.sz]at h0
 .rw[Rx.nz_sz]at h0;unfold Rx.nz;rw[dF h0]
 rw[Rx.nz_sz]at h0;unfold Rx.nz;rw[dF h0]
def zm(h:e.nz.sz≠0):e.nz=e:=by rw[Rx.nz_sz]at h;unfold Rx.nz;rw[dG h]
def Ey(f:N_)(n i:Nat)(z:n<96):YZ (.lit f) n i=zp n i:=by
 unfold YZ zp;by_cases h0:i=0
 .subst h0;simp[Rx.nul];omega
 by_cases h1:i<97
 .simp only[h0,h1,dB,eU,Rx.fst];by_cases h2:i=1+n
  .subst h2;simp
  rw[show(i-1==n)=false by simp;omega,show(i==1+n)=false by simpa using h2,show(i==97+n)=false by simp;omega];rfl
 simp only[h0,h1,eU,Rx.lst];by_cases h2:i=97+n
 .subst h2;simp
 rw[show(i-97==n)=false by simp;omega,show(i==97+n)=false by simpa using h2,show(i==1+n)=false by simp;omega];rfl
def Jw{Q:Act->Prop}(Z:Region.wanted op (yielded ops a.tmps)=true)(x:Operand)(z:Operand)(Y:op.op=.slice 194 x none (some z) none)
  (ad:Option Addr) (len cap:Nat) (hx:a.eval x=.slice ad len cap) (h:Nat) (H:a.eval z=I6 h) (h2:h<=cap)
  (J:wpStill prog ops w Q rest (a.put op.dst (.slice (OC ad cap 0) (h-0) (cap-0)))):wpStill prog ops w Q (op::rest) a:=
 wpStill_step λK e=>by
  rw[dF Z];unfold Oper.still execOp;have hs:(sizeOf 261).run prog w=.ok 261 w:=Qk
  have b:∀c,(Instr.sliceBound (I6 (h:Int)) cap c).run prog w=.ok h w:=λc=>by simp[Instr.sliceBound,asIntOf,f9];omega
  have d:(Instr.sliceBounds true len cap none (some (I6 (h:Int))) none).run prog w=.ok (0,h,cap) w:=by simp[Instr.sliceBounds,b]
  have f:(Instr.sliceAt 194 (.slice ad len cap) none (some (I6 (h:Int))) none).run prog w=.ok (.slice (OC ad cap 0) (h-0) (cap-0)) w:=by
   simp only[Instr.sliceAt,Instr.slice,fE,gd u_n,Zu,d,hs,fV];rfl
  simp only[Y,hx,fE,Option.map_none,dX,H,f,Zu,fV];exact⟨rfl,e _ J⟩
def SE{f:Nat}{p:Pt}(h:Pp (f+1) 0 ts e)(H:XK Sm ps ts)(J:ps.length=m+1)(Y:ps[m]?=some p):
  (p.kd=1/\e=.lit p.f)\/(p.kd=3/\∃inn e0,Pp f 2 inn e0/\e=e0.nz/\XK Sm ((ps.drop 1).take (m-1)) inn/\inn.length=m-1/\1<=m) \/
  ((p.kd=5\/p.kd=6\/p.kd=7\/p.kd=8)/\∃q e0 le mo,Pp f 0 q e0/\XK Sm (ps.take m) q/\q.length=m/\e=(Rx.suf p.kd le mo e0).nz/\(p.kd=8->p.le=((le:Nat):Int)/\p.mo=((mo:Nat):Int)/\le<=9/\mo<=9)):=by
 have last:∀(a:List Tq) (t:Tq),XK Sm ps (a++[t])->a.length=m/\XK Sm (ps.take m) a/\Sm p t:=λa t d=>by
  have w:=d.len;have g:a.length=m:=by simp at w;omega
  let⟨h1,h2⟩:=XK.split _ _ _ d;rw[g]at h1 h2;refine⟨g,h1,?_⟩;have:ps.drop m=[p]:=by
   have i:m<ps.length:=Qo
   rw[dS i,eI Qo];rw[Zd i]at Y;rw[Zh Y]
  rw[this]at h2;cases h2 with
  |cons h t=>exact h
 unfold Pp at h;rcases h with ⟨q,rfl,h2,h3,rfl⟩|⟨a,inn,b,e0,rfl,h2,h3,l,s,u,rfl⟩|⟨q,t,e0,rfl,h2,h3,l,rfl⟩
 .let⟨_,_,hs⟩:=last [] q H;exact Or.inl ⟨by rw[hs.1];exact h3,by rw[hs.2.2.1]⟩
 .let⟨j,k,hs⟩:=last (a::inn) b H;refine Or.inr (Or.inl ⟨by rw[hs.1];exact s,inn,e0,u,rfl,?_,by simp at j;omega,by simp at j;omega⟩);have o:=(XK.split [a] inn _ k).2;rw[fQ]at o;simpa using o
 let⟨j,k,hs⟩:=last q t H;have v:p.kd=5\/p.kd=6\/p.kd=7\/p.kd=8:=by rw[hs.1];exact l
 refine Or.inr (Or.inr ⟨v,q,e0,t.le.toNat,t.t.mo.toNat,h2,k,j,by rw[hs.1],λn=>?_⟩);have c:t.t.kd=8:=by rw[<-hs.1];exact n
 let⟨x,r,_,x1,x2,x3⟩:=h3.2.2 c;have J:=M3 h3.1 c;have A:t.t.mo<=9:=by
  rcases J.2 with ⟨y,_,B,C,D⟩|⟨y,z,_,_,_,B,C,D⟩<;>omega
 rw[hs.2.2.2 n,hs.2.1];omega
def CA(f:Nat)(hP:Pj 210 0 f)(hW:Pj 173 2 f):Pj 210 0 (f+1):=by
 intro ts e ps ad cap nb base vh vb n hs bh F w hp hb y hn aM;have hz:=Wg;have aa:=y.net.c.lt;obtain⟨A,hA⟩:∃A,A=w.heap.size:=⟨_,rfl⟩;obtain⟨W1,aE⟩:∃W,W=w.alloc (.cells (bl (λ_=>false) 193).toArray 247):=⟨_,rfl⟩;have T1:=TC.boxed w (bl (λ_=>false) 193) 247;have x1:=box_bel w (.cells (bl (λ_=>false) 193).toArray 247);rw[<-aE]at T1 x1;rw[<-hA]at T1;have aH:=y.net.h.blk;have aI:=y.net.b.blk;have R1:RA nb base vh vb vh vb n hs bh F w W1 A:=
  ⟨y.net.below x1,NF.of vh vb Qo x1,T1,λk R=>Or.inl (by have:=(aH k R).2;omega),λk R=>Or.inl (by have:=(aI k R).2;omega)⟩
 have aQ:Hid (Cp 168 #[.slice ad ps.length cap] W1 λen w'=>en=.returned (I6 (Pg.gW e.sz))/\Bl W1 w'):=by
  have:=JP ad cap ps W1 y.len (y.prt.below x1) aM;rw[Ih hp hb]at this;exact this
 have aY:=Ic (n:=e.sz);have bq:=US (a:=(e.sz:Int)) Qo;have HA:Hid (A=w.heap.size):=hA;have ay:Hid (W1=w.alloc (.cells (bl (λ_=>false) 193).toArray 247)):=aE;have ax:Hid (RA nb base vh vb vh vb n hs bh F w W1 A):=R1;have C:nb<A:=Qo
 by_cases h0:e.sz=0
 .have T:=Gu hp h0;subst T;have bd:Pg.gW (Rx.eps.sz:Nat)=0:=rfl;rw[bd]at aQ;clear hP hW hp hb y hn aM hA aE T1 x1 R1 aH aI aY bq h0 bd;go_enter func210,ntmps210;go_wp2_with fail;rw[<-ay.o];apply aQ.o.mono;rintro en w1 ⟨rfl,an⟩;go_wp2_with fail;apply ft (SD w1);rintro en w2 ⟨rfl,ao⟩;have R2:=(ax.o.below an).below ao;have N:=HA.o;let⟨B,G,K,d4⟩:=R2.done C Qo aa (YZ .eps n);obtain⟨M,s⟩:∃M,M=bl (YZ .eps n) 193:=⟨_,rfl⟩;rw[<-s]at B G K;have bb:bl Rt 193=M:=by rw[s];exact(YW (λi hi=>PH n i hi)).symm
  rw[bb];obtain⟨E,l⟩:∃W,W=w2.setCells A 0 M:=⟨_,rfl⟩;rw[<-l]at B G K;have J:Hid (E=w2.setCells A 0 M):=l;have u:Hid ((loadVar 247 (a_ A 0)).run prog E=.ok (.agg M.toArray) E):=B;have t:Hid (M.length=193):=by show _=_;rw[s];exact Y9 _ _
  have I:Hid (M.toArray.all (·.oneCell')=true):=by show _=true;rw[s];exact YJ _ _
  have HM:Hid (M=bl (YZ .eps n) 193):=s;rw[<-HA.o];clear s bb l B R2 N an ao ax ay;go_wp2_with (first|(with_reducible apply gst 247;apply Za rfl 247 _ _ rfl A 0 M.toArray rfl rfl (by simpa[t.o]using d4) (by simpa[t.o]using Y3) I.o;rw[Zc,<-J.o]));apply Zr (v:=.agg M.toArray) (res_load1 results210 rfl u.o) rfl;exact⟨vh,vb,by rw[HM.o],Gg G,K⟩
 have bB:(Pg.gW (e.sz:Int)==0)=false:=by
  have:¬Pg.gW (e.sz:Int)=0:=λh=>h0 (aY.1 h)
  simpa using this
 have bt:0<ps.length:=by
  let⟨q,r,h,_⟩:=Rr hp;have:=hb.len;rw[h]at this;simp at this;omega
 obtain⟨m,hm⟩:∃m,ps.length=m+1:=⟨ps.length-1,Qo⟩;obtain⟨p,be⟩:∃p,ps[m]?=some p:=⟨ps[m],Zd Qo⟩;have Hm:Hid (ps.length=m+1):=hm;have aA:Hid (ps[m]?=some p):=be;have X:Hid (Sr nb base vh vb n hs bh F ad cap ps w):=y;have Hp:Hid (Pp (f+1) 0 ts e):=hp;have Hb:Hid (XK Sm ps ts):=hb;have aU:Hid (∀p∈ps,0<=p.mo/\p.mo<=9):=aM;have Hn:Hid (n+e.sz<=96):=hn;have HP:Hid (Pj 210 0 f):=hP;have bn:Hid (Pj 173 2 f):=hW;have bo:Hid ((∀k,vh.ownBlock=some k->k<A)/\(∀k,vb.ownBlock=some k->k<A)):=⟨λk R=>by have:=(aH k R).2;omega,λk R=>by have:=(aI k R).2;omega⟩;have bA:(ps.length:Int)-1=(m:Int):=Qo
 have bz:(m:Int)<(ps.length:Int):=Qo
 have a1:m<=cap:=by have:=y.lcap;omega
 have bv:(ps.length:Int)<=100:=by have:=y.len;omega
 have aO:=y.lcap;clear hP hW hp hb y hn aM hA aE T1 x1 R1 aH aI aY bt hm be;go_enter func210,ntmps210;go_wp2_with fail;rw[<-ay.o];apply aQ.o.mono;rintro en w1 ⟨rfl,an⟩;have R2:=ax.o.below an;let⟨g,o,e1,bi⟩:=X.o.prt.nf X.o.sep R2.nf m p aA.o;have hr:w1.rangeAt g (o+m*261) (YY p.kd p.pl p.f p.le p.mo p.fa):=bi;subst e1;have bD:=XH w1;have hN:=Yz.boxed w1 0 0 (λ_=>false) 0 0 0 261;have aD:=hN.free;have s:=hN.put p.kd p.pl p.f p.le p.mo p.fa;obtain⟨S,aF⟩:∃W,W=((w1.alloc (Obj.cells (YY 0 0 (λ_=>false) 0 0 0).toArray 261)).setCells w1.heap.size 0 (YY p.kd p.pl p.f p.le p.mo p.fa)):=⟨_,rfl⟩;have ao:Bl w1 S:=by rw[aF];exact((Zk _ _).alloc (Zg _) _).trans (Y6 w1.heap.size w1.heap.size 0 (Zg _) _ _ 0)
 rw[<-aF]at s;obtain⟨D,hD⟩:∃D,D=w1.heap.size:=⟨_,rfl⟩;have H:A<D:=by have:=R2.a.ltB;omega
 have a3:=bo.o;have aX:RD nb base vh vb vh vb n hs bh F (YY p.kd p.pl p.f p.le p.mo p.fa) w S A D:=by
  have R3:=R2.below ao;rw[<-hD]at s;exact⟨R3.net,R3.nf,R3.a,s.tc,s.lt,λk R=>Or.inl (a3.1 k R),λk R=>Or.inl (a3.2 k R)⟩
 have az:Hid (S=((w1.alloc (Obj.cells (YY 0 0 (λ_=>false) 0 0 0).toArray 261)).setCells w1.heap.size 0 (YY p.kd p.pl p.f p.le p.mo p.fa))):=aF;have HD:Hid (D=w1.heap.size):=hD;have z:Hid (RD nb base vh vb vh vb n hs bh F (YY p.kd p.pl p.f p.le p.mo p.fa) w S A D):=aX;have aK:∀(j:Nat) (v:Value),(YY p.kd p.pl p.f p.le p.mo p.fa)[j]?=some v->S.cell? (a_ w1.heap.size j)=some v:=λj v hv=>by rw[<-hD];exact(aX.d j v hv).1
 have k0:=aK 0 _ rfl;have k3:=aK 258 (I6 p.le) (by rw[show 258=258+0 from rfl,VP];rfl);have k4:=aK 259 (I6 p.mo) (by rw[show 259=258+1 from rfl,VP];rfl);have af:S.rangeAt w1.heap.size 2 (bl p.f 256):=s.set;rw[<-HA.o];clear hN s aF ao hD aX aK R2 bi an ax ay a3;by_cases ab:p.kd=1
 .have T:e=.lit p.f:=by
   rcases SE Hp Hb Hm aA with ⟨_,h⟩|⟨h,_⟩|⟨h,_⟩
   .exact h
   .omega
   omega
  subst T;have O:n<96:=by have:=Hn.o;simp[Rx.sz]at this;omega
  rw[ab]at k0;have ak:Hid (Cp 219 #[pT nb,.agg (bl p.f 256).toArray] S λen w'=>∃vh' vb',en=.returned (.agg (bl (zp n) 193).toArray)/\YB nb base vh' vb' (n+1) (λq=>if q=n then p.f else hs q) (λq=>if q=n then (λ_=>false) else bh q) F w'/\NF nb vh vb vh' vb' S w'):=
   Em nb base vh vb n hs bh F p.f S z.o.net X.o.lnb (by have:=z.o.nf.b.size;have:=X.o.bw;omega) O
  clear k3 k4 ab;go_wp2_with (first|(with_reducible refine lP rfl hr ?_)|(with_reducible apply sP rfl rfl aD;rw[Zc,<-az.o])|(with_reducible apply gld 251;refine Zb rfl 251 _ rfl w1.heap.size 2 rfl (bl p.f 256) _ af u_c rfl (by rw[Y9];exact Py) ?_));apply ak.o.mono;rintro en w5 ⟨vh2,vb2,rfl,N5,F5⟩;have N6:YB nb base vh2 vb2 (n+(Rx.lit p.f).sz) (Uf hs (.lit p.f) n) (SO bh (.lit p.f) n) F w5:=by
   refine YB.congr (show YB nb base vh2 vb2 (n+1) _ _ F w5 from N5) (λq b hq _=>?_) (λq b hq _=>?_)
   .unfold Uf;by_cases av:q=n
    .subst av;simp[Rx.has]
    have aw:q<n:=by simp only[Rx.sz]at hq;omega
    simp[av,aw]
   unfold SO;by_cases av:q=n
   .subst av;simp[Rx.fol]
   have aw:q<n:=by simp only[Rx.sz]at hq;omega
   simp[av,aw]
  have R9:=(z.o.call C H N6 F5).ra H;have bj:bl (zp n) 193=bl (YZ (.lit p.f) n) 193:=YW (λi _=>(Ey p.f n i O).symm);rw[bj];clear bj N5 F5 z ak af;have N:=HA.o;let⟨B,G,K,d4⟩:=R9.done C Qo aa (YZ (.lit p.f) n);obtain⟨M,s⟩:∃M,M=bl (YZ (.lit p.f) n) 193:=⟨_,rfl⟩;rw[<-s]at B G K ⊢;obtain⟨E,l⟩:∃W,W=w5.setCells A 0 M:=⟨_,rfl⟩;rw[<-l]at B G K;have J:Hid (E=w5.setCells A 0 M):=l;have u:Hid ((loadVar 247 (a_ A 0)).run prog E=.ok (.agg M.toArray) E):=B;have t:Hid (M.length=193):=by show _=_;rw[s];exact Y9 _ _
  have I:Hid (M.toArray.all (·.oneCell')=true):=by show _=true;rw[s];exact YJ _ _
  have HM:Hid (M=bl (YZ (.lit p.f) n) 193):=s;clear s l B N;go_wp2_with (first|(with_reducible apply gst 247;apply Za rfl 247 _ _ rfl A 0 M.toArray rfl rfl (by simpa[t.o]using d4) (by simpa[t.o]using Y3) I.o;rw[Zc,<-J.o]));apply Zr (v:=.agg M.toArray) (res_load1 results210 rfl u.o) rfl;exact⟨vh2,vb2,by rw[HM.o],G,K⟩
 have q1:(p.kd==1)=false:=by simpa using ab
 by_cases aj:p.kd=3
 .obtain⟨inn,e0,hq,T,bc,br,bu⟩:∃inn e0,Pp f 2 inn e0/\e=e0.nz/\XK Sm ((ps.drop 1).take (m-1)) inn/\inn.length=m-1/\1<=m:=by
   rcases SE Hp Hb Hm aA with ⟨h,_⟩|⟨_,h⟩|⟨h,_⟩
   .omega
   .exact h
   omega
  have ah:e=e0:=by rw[T];exact zm (by rw[<-T];exact h0)
  subst ah;have P:=X.o;rw[aj]at k0;have a8:Hid (Cp 173 #[pT nb,.slice (OC (some (a_ g o)) cap 1) (m-1) (cap-1)] S (Vz nb base vh vb n hs bh F e S)):=by
   have bC:=Hm.o;have h1:((ps.drop 1).take (m-1)).length=m-1:=by rw[eE,dY];omega
   have h3:=(P.prt.nf P.sep z.o.nf).sub (cap:=cap) 1 (m-1) Qo aO;have:=bn.o inn e ((ps.drop 1).take (m-1)) (OC (some (a_ g o)) cap 1) (cap-1) nb base vh vb n hs bh F S hq bc ⟨z.o.net,P.lnb,by have:=z.o.nf.b.size;have:=P.bw;omega,h3,by have:=P.len;omega,Qo,(P.sep.nf z.o.nf).sub _ _⟩ Hn (λx hx=>aU.o x (List.mem_of_mem_drop (fZ hx)));rw[h1]at this;exact this
  clear k3 k4 aj ab P hq T bc br;go_wp2_with (first|(with_reducible refine lP rfl hr ?_)|(with_reducible apply sP rfl rfl aD;rw[Zc,<-az.o])|(with_reducible show wpList _ _ _ (⟨_,Op.slice 194 _ _ _ _,_,_,_,_⟩::_) _ _;refine Ya.out ?_));refine⟨?_⟩
  (try simp only[psm])
  apply VS rfl _ _ _ rfl (some (a_ g o)) ps.length cap rfl 1 m (Or.inr ⟨_,rfl,rfl⟩) (Or.inr ⟨_,rfl,rfl⟩) bu a1;go_wp2_with fail;apply a8.o.mono;rintro en w5 ⟨vh2,vb2,rfl,N5,F5⟩;have R9:=(z.o.call C H N5 F5).ra H;clear N5 F5 z a8 af;have N:=HA.o;let⟨B,G,K,d4⟩:=R9.done C Qo aa (YZ e n);obtain⟨M,s⟩:∃M,M=bl (YZ e n) 193:=⟨_,rfl⟩;rw[<-s]at B G K ⊢;obtain⟨E,l⟩:∃W,W=w5.setCells A 0 M:=⟨_,rfl⟩;rw[<-l]at B G K;have J:Hid (E=w5.setCells A 0 M):=l;have u:Hid ((loadVar 247 (a_ A 0)).run prog E=.ok (.agg M.toArray) E):=B;have t:Hid (M.length=193):=by show _=_;rw[s];exact Y9 _ _
  have I:Hid (M.toArray.all (·.oneCell')=true):=by show _=true;rw[s];exact YJ _ _
  have HM:Hid (M=bl (YZ e n) 193):=s;clear s l B N;go_wp2_with (first|(with_reducible apply gst 247;apply Za rfl 247 _ _ rfl A 0 M.toArray rfl rfl (by simpa[t.o]using d4) (by simpa[t.o]using Y3) I.o;rw[Zc,<-J.o]));apply Zr (v:=.agg M.toArray) (res_load1 results210 rfl u.o) rfl;exact⟨vh2,vb2,by rw[HM.o],G,K⟩
 have q3:(p.kd==3)=false:=by simpa using aj
 obtain⟨ar,q,e0,le,mo,hq,aJ,bf,T,au⟩:(p.kd=5\/p.kd=6\/p.kd=7\/p.kd=8)/\∃q e0 le mo,Pp f 0 q e0/\XK Sm (ps.take m) q/\q.length=m/\e=(Rx.suf p.kd le mo e0).nz/\(p.kd=8->p.le=((le:Nat):Int)/\p.mo=((mo:Nat):Int)/\le<=9/\mo<=9):=by
  rcases SE Hp Hb Hm aA with ⟨h,_⟩|⟨h,_⟩|h
  .omega
  .omega
  exact h
 have ah:e=Rx.suf p.kd le mo e0:=by rw[T];exact zm (by rw[<-T];exact h0)
 have P:=X.o;have h1:(ps.take m).length=m-0:=by rw[eE];have:=Hm.o;omega
 have bm:∀W,NF nb vh vb vh vb w W->PS (OC (some (a_ g o)) cap 0) (ps.take m) W:=λW hf=>by
  have h3:=(P.prt.nf P.sep hf).sub (cap:=cap) 0 m (by have:=Hm.o;omega) aO;rw[Zw]at h3;exact h3
 have aB:Hid (∀W,NF nb vh vb vh vb w W->PS (OC (some (a_ g o)) cap 0) (ps.take m) W):=bm;have Z:(ps.take m).length<=100:=by rw[eE];have:=P.len;omega
 clear bm;by_cases ac:p.kd=8
 .have aZ:e=Rx.rowOf (Rx.copies e0 le mo):=by rw[ah,ac];rfl
  let⟨l1,l2,l3,l4⟩:=au ac;rw[ac]at k0;rw[l1]at k3;rw[l2]at k4;have aN:e.sz=mo*e0.sz:=by rw[aZ];exact Rx.copies_sz e0 le mo
  have V:Hid (RD nb base vh vb vh vb n hs bh F (YY p.kd p.pl p.f p.le p.mo p.fa) w S.drew A D):=z.o.below (Zk _ _).drew;have a6:Hid (Cp 220 #[pT nb,.slice (OC (some (a_ g o)) cap 0) (m-0) (cap-0),I6 le,I6 mo] S.drew (Vz nb base vh vb n hs bh F e S.drew)):=by
   have:=FJ f HP q e0 (ps.take m) (OC (some (a_ g o)) cap 0) (cap-0) nb base vh vb n hs bh F le mo S.drew hq aJ ⟨V.o.net,P.lnb,by have:=V.o.nf.b.size;have:=P.bw;omega,aB _ V.o.nf,Z,Qo,(P.sep.nf V.o.nf).sub _ _⟩ (by have:=Hn.o;omega) (λx hx=>aU.o x (fZ hx)) l4 l3;rw[h1,<-aZ]at this;exact this
  clear ac aj ab P hq T aJ bf au l1 l2 l3 l4 ah aZ aN h1 aB Z ar;go_wp2_with (first|(with_reducible refine lP rfl hr ?_)|(with_reducible apply sP rfl rfl aD;rw[Zc,<-az.o]));apply wp_region_still_tail 8 Qk Qk;simp only[ZK,f7,ZL,Zw];change wpStill _ _ S.drew (λa'=>wpList _ _ _ _ a' S.drew) _ _
  still_step
  still_step
  still_step
  apply Jw rfl _ _ rfl (some (a_ g o)) ps.length cap rfl m rfl a1
  repeat still_step
  apply f8;go_wp2_with fail;apply a6.o.mono;rintro en w5 ⟨vh2,vb2,rfl,N5,F5⟩;have R9:=(V.o.call C H N5 F5).ra H;clear N5 F5 z V a6 af;have N:=HA.o;let⟨B,G,K,d4⟩:=R9.done C Qo aa (YZ e n);obtain⟨M,s⟩:∃M,M=bl (YZ e n) 193:=⟨_,rfl⟩;rw[<-s]at B G K ⊢;obtain⟨E,l⟩:∃W,W=w5.setCells A 0 M:=⟨_,rfl⟩;rw[<-l]at B G K;have J:Hid (E=w5.setCells A 0 M):=l;have u:Hid ((loadVar 247 (a_ A 0)).run prog E=.ok (.agg M.toArray) E):=B;have t:Hid (M.length=193):=by show _=_;rw[s];exact Y9 _ _
  have I:Hid (M.toArray.all (·.oneCell')=true):=by show _=true;rw[s];exact YJ _ _
  have HM:Hid (M=bl (YZ e n) 193):=s;clear s l B N;go_wp2_with (first|(with_reducible apply gst 247;apply Za rfl 247 _ _ rfl A 0 M.toArray rfl rfl (by simpa[t.o]using d4) (by simpa[t.o]using Y3) I.o;rw[Zc,<-J.o]));apply Zr (v:=.agg M.toArray) (res_load1 results210 rfl u.o) rfl;exact⟨vh2,vb2,by rw[HM.o],G,K⟩
 have q8:(p.kd==8)=false:=by simpa using ac
 have aN:e.sz=e0.sz:=by
  rw[ah];unfold Rx.suf;rcases ar with h|h|h|h
  .rw[dF h];rfl
  .rw[g_,dF h];rfl
  .rw[g_,g_,dF h];rfl
  omega
 have O:n+e0.sz<=96:=by have:=Hn.o;omega
 have a7:Hid (Cp 210 #[pT nb,.slice (OC (some (a_ g o)) cap 0) (m-0) (cap-0)] S (Vz nb base vh vb n hs bh F e0 S)):=by
  have:=HP.o q e0 (ps.take m) (OC (some (a_ g o)) cap 0) (cap-0) nb base vh vb n hs bh F S hq aJ ⟨z.o.net,P.lnb,by have:=z.o.nf.b.size;have:=P.bw;omega,aB _ z.o.nf,Z,Qo,(P.sep.nf z.o.nf).sub _ _⟩ O (λx hx=>aU.o x (fZ hx));rw[h1]at this;exact this
 have aW:Hid (e.sz=e0.sz):=aN;have aT:Hid (e=Rx.suf p.kd le mo e0):=ah;have aP:=P.lnb;clear P hq T aJ bf au ah h1 aB Z aN k3 k4;go_wp2_with (first|(with_reducible refine lP rfl hr ?_)|(with_reducible apply sP rfl rfl aD;rw[Zc,<-az.o])|(with_reducible show wpList _ _ _ (⟨_,Op.slice 194 _ _ _ _,_,_,_,_⟩::_) _ _;refine Ya.out ?_));refine⟨?_⟩
 (try simp only[psm])
 apply VS rfl _ _ _ rfl (some (a_ g o)) ps.length cap rfl 0 m (Or.inl ⟨rfl,rfl⟩) (Or.inr ⟨_,rfl,rfl⟩) (dM _) a1;go_wp2_with fail;apply a7.o.mono;rintro en w3 ⟨vh2,vb2,rfl,N3,F3⟩;have R3:=z.o.call C H N3 F3;let⟨b1,b2,b3⟩:=Uw w3 (YZ e0 n);have a4:(w3.alloc (.cells (bl (λ_=>false) 193).toArray 247)).there w3.heap.size 0 193:=Yc (TC.boxed w3 _ _);obtain⟨L3,aC⟩:∃L,L=bl (YZ e0 n) 193:=⟨_,rfl⟩;obtain⟨W4,aG⟩:∃W,W=(w3.alloc (.cells (bl (λ_=>false) 193).toArray 247)).setCells w3.heap.size 0 (bl (YZ e0 n) 193):=⟨_,rfl⟩;rw[<-aG]at b1 b2 b3;rw[<-aC]at aG ⊢;have U:Hid (L3.length=193):=by show _=_;rw[aC];exact Y9 _ _
 have al:Hid (L3.toArray.all (·.oneCell')=true):=by show _=true;rw[aC];exact YJ _ _
 have aR:Hid (W4=(w3.alloc (.cells (bl (λ_=>false) 193).toArray 247)).setCells w3.heap.size 0 L3):=aG;have R4:=R3.below b2;have a2:(∀k,vh2.ownBlock=some k->k<w3.heap.size)/\(∀k,vb2.ownBlock=some k->k<w3.heap.size):=⟨λk R=>(N3.h.blk k R).2,λk R=>(N3.b.blk k R).2⟩;have a9:D<w3.heap.size:=R3.dl;have aV:Hid ((∀k,vh2.ownBlock=some k->k<w3.heap.size)/\(∀k,vb2.ownBlock=some k->k<w3.heap.size)/\D<w3.heap.size):=⟨a2.1,a2.2,a9⟩;have aL:=(R4.d 0 _ (UR _ _ _ _ _ _)).1;rw[HD.o]at aL;have g1:=b1.sub 97 96 Qo;have g2:=b1.sub 1 96 Qo;have Y:Hid (RD nb base vh vb vh2 vb2 (n+e0.sz) (Uf hs e0 n) (SO bh e0 n) F (YY p.kd p.pl p.f p.le p.mo p.fa) w W4 A D):=R4;have am:Hid (TC w3.heap.size (bl (YZ e0 n) 193) W4):=b1;clear aC aG b1 b2 b3 R3 R4 N3 F3 a7 z af a2 a9;by_cases ap:p.kd=5
 .have T:e=.star e0:=by rw[aT.o,ap];rfl
  rw[ap]at aL;have HK:Hid (p.kd=5):=ap;have Q:=Y.o;have ak:Hid (Cp 221 #[pT nb,.agg (bl (λi=>YZ e0 n (97+i)) 96).toArray,.agg (bl (λi=>YZ e0 n (1+i)) 96).toArray] W4 λen w'=>en=.returned (.tuple #[])/\YB nb base vh2 vb2 (n+e0.sz) (Uf hs e0 n) (OY (SO bh e0 n) (λi=>YZ e0 n (97+i)) (λi=>YZ e0 n (1+i)) (n+e0.sz)) F w'/\NF nb vh2 vb2 vh2 vb2 W4 w'):=MY nb base vh2 vb2 (n+e0.sz) _ _ F _ _ W4 Q.net aP O;have He:Hid (e=.star e0):=T;clear Q T ar ac aj ab ap;go_wp2_with (first|(with_reducible apply gst 247;apply Za rfl 247 _ _ rfl w3.heap.size 0 L3.toArray rfl rfl (by simpa[U.o]using a4) (by simpa[U.o]using Y3) al.o;rw[Zc,<-aR.o])|(with_reducible apply gld 132;refine Zb rfl 132 _ rfl w3.heap.size 97 rfl _ _ g1 u_a rfl (by rw[Y9];exact Y0) ?_)|(with_reducible apply gld 132;refine Zb rfl 132 _ rfl w3.heap.size 1 rfl _ _ g2 u_a rfl (by rw[Y9];exact Y0) ?_));apply ak.o.mono;rintro en w5 ⟨rfl,N5,F5⟩;have R5:=Y.o.call C H N5 F5;let⟨o1,o2,o3⟩:=aV.o;have a5:w3.heap.size<W4.heap.size:=am.o.ltB;have c5:=am.o.block (F5.k w3.heap.size a5 Qo (λx=>by have:=o1 _ x;omega) (λx=>by have:=o2 _ x;omega));have ae:=(R5.d 0 _ (UR _ _ _ _ _ _)).1;rw[HD.o]at ae;rw[HK.o]at ae;let⟨c0,bp⟩:=c5 0 _ (YO _ Qo);have c6:=c5.set 0 (by rw[Y9];omega) (.bool true);rw[Vm,YW (g:=YZ e n) (λj _=>by
   rw[He.o];unfold YZ;by_cases h0:j=0
   .simp[h0,Rx.nul]
   simp[h0,Rx.fst,Rx.lst])]at c6
  have ai:w5.grownBy (w5.setCell (a_ w3.heap.size 0) (.bool true)) (some w3.heap.size):=Y8 w3.heap.size [.bool true] 0 w5;obtain⟨W6,ag⟩:∃W,W=w5.setCell (a_ w3.heap.size 0) (.bool true):=⟨_,rfl⟩;rw[<-ag]at c6 ai;have aS:Hid (W6=w5.setCell (a_ w3.heap.size 0) (.bool true)):=ag;have N:=HA.o;have R6:=R5.mine C H Qo aa o3 (λk R=>by have:=o1 k R;omega) (λk R=>by have:=o2 k R;omega) ai;let⟨B,G,K,d4⟩:=(R6.ra H).done C Qo aa (YZ e n);have rM:=c6.range;obtain⟨M,s⟩:∃M,M=bl (YZ e n) 193:=⟨_,rfl⟩;rw[<-s]at B G K rM;obtain⟨E,l⟩:∃W,W=W6.setCells A 0 M:=⟨_,rfl⟩;rw[<-l]at B G K;have J:Hid (E=W6.setCells A 0 M):=l;have u:Hid ((loadVar 247 (a_ A 0)).run prog E=.ok (.agg M.toArray) E):=B;have t:Hid (M.length=193):=by show _=_;rw[s];exact Y9 _ _
  have I:Hid (M.toArray.all (·.oneCell')=true):=by show _=true;rw[s];exact YJ _ _
  have HM:Hid (M=bl (YZ e n) 193):=s;have NX:YB nb base vh2 vb2 (n+e.sz) (Uf hs e n) (SO bh e n) F E:=by
   rw[aW.o,He.o];exact G.congr (λp q _ _=>rfl) (λp q hp _=>IQ bh e0 n p q O hp)
  clear s l B G N R6 R5 c6 c5 o1 o2 o3 Y ag ai N5 F5;go_wp2_with (first|(with_reducible apply gld 247;rw[<-aS.o];refine Zb rfl 247 _ rfl w3.heap.size 0 rfl M _ rM u_b rfl (by rw[t.o];exact Y3) ?_)|(with_reducible apply gst 247;apply Za rfl 247 _ _ rfl A 0 M.toArray rfl rfl (by simpa[t.o]using d4) (by simpa[t.o]using Y3) I.o;rw[Zc,<-J.o]));apply Zr (v:=.agg M.toArray) (res_load1 results210 rfl u.o) rfl;exact⟨vh2,vb2,by rw[HM.o],NX,K⟩
 have q5:(p.kd==5)=false:=by simpa using ap
 by_cases aq:p.kd=6
 .have T:e=.plus e0:=by rw[aT.o,aq];rfl
  rw[aq]at aL;have HK:Hid (p.kd=6):=aq;have Q:=Y.o;have ak:Hid (Cp 221 #[pT nb,.agg (bl (λi=>YZ e0 n (97+i)) 96).toArray,.agg (bl (λi=>YZ e0 n (1+i)) 96).toArray] W4 λen w'=>en=.returned (.tuple #[])/\YB nb base vh2 vb2 (n+e0.sz) (Uf hs e0 n) (OY (SO bh e0 n) (λi=>YZ e0 n (97+i)) (λi=>YZ e0 n (1+i)) (n+e0.sz)) F w'/\NF nb vh2 vb2 vh2 vb2 W4 w'):=MY nb base vh2 vb2 (n+e0.sz) _ _ F _ _ W4 Q.net aP O;have He:Hid (e=.plus e0):=T;clear Q T ar ac aj ab aq;go_wp2_with (first|(with_reducible apply gst 247;apply Za rfl 247 _ _ rfl w3.heap.size 0 L3.toArray rfl rfl (by simpa[U.o]using a4) (by simpa[U.o]using Y3) al.o;rw[Zc,<-aR.o])|(with_reducible apply gld 132;refine Zb rfl 132 _ rfl w3.heap.size 97 rfl _ _ g1 u_a rfl (by rw[Y9];exact Y0) ?_)|(with_reducible apply gld 132;refine Zb rfl 132 _ rfl w3.heap.size 1 rfl _ _ g2 u_a rfl (by rw[Y9];exact Y0) ?_));apply ak.o.mono;rintro en w5 ⟨rfl,N5,F5⟩;have R5:=Y.o.call C H N5 F5;let⟨o1,o2,o3⟩:=aV.o;have a5:w3.heap.size<W4.heap.size:=am.o.ltB;have c5:=am.o.block (F5.k w3.heap.size a5 Qo (λx=>by have:=o1 _ x;omega) (λx=>by have:=o2 _ x;omega));have ae:=(R5.d 0 _ (UR _ _ _ _ _ _)).1;rw[HD.o]at ae;rw[HK.o]at ae;have c6:TC w3.heap.size (bl (YZ e n) 193) w5:=by rw[He.o];exact c5
  have R6:=R5;have N:=HA.o;let⟨B,G,K,d4⟩:=(R6.ra H).done C Qo aa (YZ e n);have rM:=c6.range;obtain⟨M,s⟩:∃M,M=bl (YZ e n) 193:=⟨_,rfl⟩;rw[<-s]at B G K rM;obtain⟨E,l⟩:∃W,W=w5.setCells A 0 M:=⟨_,rfl⟩;rw[<-l]at B G K;have J:Hid (E=w5.setCells A 0 M):=l;have u:Hid ((loadVar 247 (a_ A 0)).run prog E=.ok (.agg M.toArray) E):=B;have t:Hid (M.length=193):=by show _=_;rw[s];exact Y9 _ _
  have I:Hid (M.toArray.all (·.oneCell')=true):=by show _=true;rw[s];exact YJ _ _
  have HM:Hid (M=bl (YZ e n) 193):=s;have NX:YB nb base vh2 vb2 (n+e.sz) (Uf hs e n) (SO bh e n) F E:=by
   rw[aW.o,He.o];exact G.congr (λp q _ _=>rfl) (λp q hp _=>IQ bh e0 n p q O hp)
  clear s l B G N R6 R5 c6 c5 o1 o2 o3 Y N5 F5;go_wp2_with (first|(with_reducible apply gld 247;refine Zb rfl 247 _ rfl w3.heap.size 0 rfl M _ rM u_b rfl (by rw[t.o];exact Y3) ?_)|(with_reducible apply gst 247;apply Za rfl 247 _ _ rfl A 0 M.toArray rfl rfl (by simpa[t.o]using d4) (by simpa[t.o]using Y3) I.o;rw[Zc,<-J.o]));apply Zr (v:=.agg M.toArray) (res_load1 results210 rfl u.o) rfl;exact⟨vh2,vb2,by rw[HM.o],NX,K⟩
 have q6:(p.kd==6)=false:=by simpa using aq
 have a0:p.kd=7:=Qo
 have T:e=.opt e0:=by rw[aT.o,a0];rfl
 rw[a0]at aL;have Q:=Y.o;have R5:=Y.o;let⟨o1,o2,o3⟩:=aV.o;have c5:=am.o;have He:Hid (e=.opt e0):=T;clear Q T ar ac aj ab a0;let⟨c0,bp⟩:=c5 0 _ (YO _ Qo);have c6:=c5.set 0 (by rw[Y9];omega) (.bool true);rw[Vm,YW (g:=YZ e n) (λj _=>by
  rw[He.o];unfold YZ;by_cases h0:j=0
  .simp[h0,Rx.nul]
  simp[h0,Rx.fst,Rx.lst])]at c6
 have ai:W4.grownBy (W4.setCell (a_ w3.heap.size 0) (.bool true)) (some w3.heap.size):=Y8 w3.heap.size [.bool true] 0 W4;obtain⟨W6,ag⟩:∃W,W=W4.setCell (a_ w3.heap.size 0) (.bool true):=⟨_,rfl⟩;rw[<-ag]at c6 ai;have aS:Hid (W6=W4.setCell (a_ w3.heap.size 0) (.bool true)):=ag;have N:=HA.o;have R6:=R5.mine C H Qo aa o3 (λk R=>by have:=o1 k R;omega) (λk R=>by have:=o2 k R;omega) ai;let⟨B,G,K,d4⟩:=(R6.ra H).done C Qo aa (YZ e n);have rM:=c6.range;obtain⟨M,s⟩:∃M,M=bl (YZ e n) 193:=⟨_,rfl⟩;rw[<-s]at B G K rM;obtain⟨E,l⟩:∃W,W=W6.setCells A 0 M:=⟨_,rfl⟩;rw[<-l]at B G K;have J:Hid (E=W6.setCells A 0 M):=l;have u:Hid ((loadVar 247 (a_ A 0)).run prog E=.ok (.agg M.toArray) E):=B;have t:Hid (M.length=193):=by show _=_;rw[s];exact Y9 _ _
 have I:Hid (M.toArray.all (·.oneCell')=true):=by show _=true;rw[s];exact YJ _ _
 have HM:Hid (M=bl (YZ e n) 193):=s;have NX:YB nb base vh2 vb2 (n+e.sz) (Uf hs e n) (SO bh e n) F E:=by
  rw[aW.o,He.o];exact G.congr (λp q _ _=>rfl) (λp q _ _=>rfl)
 clear s l B G N R6 R5 c6 c5 o1 o2 o3 Y ag ai;go_wp2_with (first|(with_reducible apply gst 247;apply Za rfl 247 _ _ rfl w3.heap.size 0 L3.toArray rfl rfl (by simpa[U.o]using a4) (by simpa[U.o]using Y3) al.o;rw[Zc,<-aR.o])|(with_reducible apply gld 247;rw[<-aS.o];refine Zb rfl 247 _ rfl w3.heap.size 0 rfl M _ rM u_b rfl (by rw[t.o];exact Y3) ?_)|(with_reducible apply gst 247;apply Za rfl 247 _ _ rfl A 0 M.toArray rfl rfl (by simpa[t.o]using d4) (by simpa[t.o]using Y3) I.o;rw[Zc,<-J.o]));apply Zr (v:=.agg M.toArray) (res_load1 results210 rfl u.o) rfl;exact⟨vh2,vb2,by rw[HM.o],NX,K⟩
def Ad:∀f,Pj 210 0 f/\Pj 199 1 f/\Pj 173 2 f:=by
 intro f
 induction f with
 |zero=>exact⟨λts e ps ad cap nb base vh vb n hs bh F w h=>absurd h (by simp[Pp]),λts e ps ad cap nb base vh vb n hs bh F w h=>absurd h (by simp[Pp]),λts e ps ad cap nb base vh vb n hs bh F w h=>absurd h (by simp[Pp])⟩
 |succ f ih=>
  let⟨h1,h2,h3⟩:=ih;refine⟨CA f h1 h3,λts e ps ad cap nb base vh vb n hs bh F w g c a d b=>?_,Dk f h2 h3⟩;let⟨L,k1,i,j⟩:=g;subst k1;subst j;exact yU f h1 L ps ad cap nb base vh vb n hs bh F w i c a d b
def FR(F:Nat->Bool)(e:Rx)(n r:Nat):Nat->Bool:=λq=>if q<96 then F q || e.fst n q else if q=96+r then e.nul else F q
def bhR(bh:Nat->Nat->Bool)(e:Rx)(n r m:Nat):Nat->Nat->Bool:=λp q=>SO bh e n p q || (decide (p<m)&&decide (q=96+r)&&e.lst n p)
def Uq(b:Nat):∀(vs:List Value) (o k:Nat) (w:World),(k<o\/o+vs.length<=k)->(w.setCells b o vs).cell? (a_ b k)=w.cell? (a_ b k)
 |[],_,_,_,_=>rfl
 |v::vs,o,k,w,h=>by
  simp only[dZ]at h;rw[World.setCells,Uq b vs (o+1) k _ Qo,fB _ _ _ _ (by intro a;cases a;omega)]
def YB.first(h:YB nb base vh vb n hs bh F w)(z:nb<base)(o m:Nat)(g:N_)(H:o+m<=104):
  YB nb base vh vb n hs bh (Xi F o m g) (w.setCells nb (2+o) (bl g m))/\w.there nb (2+o) m/\NF nb vh vb vh vb w (w.setCells nb (2+o) (bl g m)):=by
 have l:=Y8 nb (bl g m) (2+o) w;have p:∀j,j<104->w.cell? (a_ nb (2+j))=some (.bool (F j))/\w.frozen? (a_ nb (2+j))=false:=λj r=>h.c (2+j) _ (by rw[show 2+j=j+1+1 by omega];simp only[eG];exact YO F r)
 have i:w.there nb (2+o) m:=λj r=>by
  let⟨h1,h2⟩:=p (o+j) Qo;rw[show 2+(o+j)=2+o+j by omega]at h1 h2;exact⟨by rw[h1];rfl,h2⟩
 refine⟨⟨λk v a=>?_,h.h.keep (λk f=>l.block k (h.h.blk k f).2 (λe=>by have:=Zh e;have:=(h.h.blk k f).1;omega)),h.b.keep (λk f=>l.block k (h.b.blk k f).2 (λe=>by have:=Zh e;have:=(h.b.blk k f).1;omega)),h.ne⟩,i,⟨(Zk _ _).grown l (by have:=h.c.lt;omega) (λq s=>by cases s;omega),λk h1 h2 _ _=>l.block k h1 (λe=>h2 (Zh e)),λ_ h=>Or.inl h,λ_ h=>Or.inl h⟩⟩;rw[fp];have f:k<106:=by have:=(Zi.1 a).1;simp[Y9]at this;omega
 by_cases h1:2+o<=k/\k<2+o+m
 .obtain⟨j,rfl⟩:∃j,k=2+o+j:=⟨k-(2+o),Qo⟩;have t:=Zo w nb (2+o) (bl g m) (by rw[Y9];exact i) j (.bool (g j)) (YO g Qo);have d:v=.bool (g j):=by
   rw[show 2+o+j=(o+j)+1+1 by omega]at a;simp only[eG]at a;rw[YO _ Qo]at a;unfold Xi at a;rw[p_,show o+j-o=j by omega]at a;exact(Zh a).symm
  rw[d];refine⟨t,?_⟩;let⟨_,h2⟩:=p (o+j) Qo;rw[show 2+(o+j)=2+o+j by omega]at h2;exact h2
 have d:(vh::vb::bl F 104)[k]?=some v:=by
  rcases k with _|_|k
  .exact a
  .exact a
  simp only[eG]at a ⊢;rw[YO _ Qo]at a ⊢;unfold Xi at a;rw[g_]at a;exact a
 let⟨h2,h3⟩:=h.c k v d;refine⟨?_,h3⟩;rw[Uq _ _ _ _ _ (by rw[Y9];omega)];exact h2
def zE(f:Nat)(qs:List Tq)(e:Rx)(ps:List Pt)(ad:Option Addr)(cap nb base:Nat)(vh vb:Value)(n:Nat)(hs bh:Nat->Nat->Bool)(F:Nat->Bool)(r:Nat)(w:World)(hp:Pp f 2 qs e)(hb:XK Sm ps qs)(hpre:Sr nb base vh vb n hs bh F ad cap ps w)(hn:n+e.sz<=96)(hmo:∀p∈ps,0<=p.mo/\p.mo<=9)(hr8:r<8):
  Cp 126 #[.pointer (some ⟨nb,0,none⟩),.slice ad ps.length cap,.int .i64 r] w λen w'=>∃vh' vb',en=.returned (.tuple #[])/\YB nb base vh' vb' (n+e.sz) (Uf hs e n) (bhR bh e n r (n+e.sz)) (FR F e n r) w'/\NF nb vh vb vh' vb' w w':=by
 have hz:=Wg;have aR:=hpre.net.c.lt;have J:=hpre.lnb;have aC:=hyd ((Ad f).2.2 qs e ps ad cap nb base vh vb n hs bh F w hp hb hpre hn hmo);clear hp hb hpre hmo;go_enter func126,ntmps126;go_wp2_with fail;refine aC.out.mono ?_;rintro en w3 ⟨vh2,vb2,rfl,N3,F3⟩;obtain⟨b1,b2,b3⟩:=Uw w3 (YZ e n);have ax:(w3.alloc (.cells (bl (λ_=>false) 193).toArray 247)).there w3.heap.size 0 193:=Yc (TC.boxed w3 _ _);obtain⟨L3,A⟩:=nam (bl (YZ e n) 193);obtain⟨T,C⟩:=nam ((w3.alloc (.cells (bl (λ_=>false) 193).toArray 247)).setCells w3.heap.size 0 (bl (YZ e n) 193));rw[<-C]at b1 b2 b3;rw[<-A]at C ⊢;have l:Hid (L3.length=193):=by show _=_;rw[A];exact Y9 _ _
 have E:Hid (L3.toArray.all (·.oneCell')=true):=by show _=true;rw[A];exact YJ _ _
 have aj:=hyd C;have az:=F3.b.size;have aw:=N3.c.lt;have Y:(∀k,vh2.ownBlock=some k->k<w3.heap.size)/\(∀k,vb2.ownBlock=some k->k<w3.heap.size):=⟨λk I=>(N3.h.blk k I).2,λk I=>(N3.b.blk k I).2⟩;have P:=hyd4 Y.1 Y.2 aw az;have R:=N3.below b2;have F4:=F3.trans (NF.of vh2 vb2 Qo b2);have ag:=hyd3 R F4 b1;have g1:=b1.sub 1 96 Qo;have au:T.rangeAt nb 2 (bl F 96):=λj v hv=>by
  have hj:j<96:=by have:=(Zi.1 hv).1;rw[Y9]at this;exact this
  rw[YO _ hj]at hv;exact(R.c (2+j) v (by rw[show 2+j=j+1+1 by omega];simp only[eG];rw[YO _ Qo];exact hv)).1
 clear A C N3 F3 az aw Y R F4 b1 b2 b3;go_wp2_with (first|(with_reducible refine gst 247 ?_;refine Za rfl 247 _ _ rfl w3.heap.size 0 L3.toArray rfl rfl (by simpa[l.out]using ax) (by simpa[l.out]using Y3) E.out ?_;rw[Zc,<-aj.out]));have ap:T.drew.rangeAt w3.heap.size 1 (bl (λi=>YZ e n (1+i)) 96):=g1;have H:T.drew.rangeAt nb 2 (bl F 96):=au;have ae:Hid (Cp 174 #[.agg (bl F 96).toArray,.agg (bl (λi=>YZ e n (1+i)) 96).toArray] T.drew λen w'=>en=.returned (.agg (bl (λq=>F q || YZ e n (1+q)) 96).toArray)/\Below T.drew.heap.size T.drew w'):=Xn _ _ _;refine fK (S:=λw'=>w'.rangeAt w3.heap.size 1 (bl (λi=>YZ e n (1+i)) 96)) (by kernel_rfl) ap (λhHeld=>?_);clear g1 au ax l E aj ap;refine tQ 0 ?_
 refine tQ 1 ?_
 refine tQ 2 ?_
 refine tQ 3 ?_
 refine tQ 4 ?_
 refine tQ 6 ?_
 refine wpAnyH_take (i:=7) (oi:=?o7) (v:=.agg (bl (λi=>YZ e n (1+i)) 96).toArray) ?hi7 ?hs7 ?hf7 ?hr7 ?hQ7 (Or.inl ⟨?hw7,?hy7⟩) ?hS7 ?rest7
 case hi7=>simp only[gel];rfl
 case hs7=>kernel_rfl
 case hf7=>kernel_rfl
 case hr7=>kernel_rfl
 case hQ7=>exact λ_ _ _ h=>h
 case hS7=>assumption
 case hw7=>rfl
 case hy7=>exact λw' aG=>XJ 132 _ rfl w3.heap.size 1 rfl (bl (λi=>YZ e n (1+i)) 96) _ aG u_a rfl (by rw[Y9];exact Y0)
 (try simp only[psm])
 refine fL (rs:=[5]) (by kernel_rfl) (by simp) ?_;refine fM (o:=?o5) ?hi5 (λK G=>?_) fN
 case hi5=>simp only[gel];rfl
 rw[dF (by rfl)];unfold Oper.wp;rw[XJ 132 _ rfl nb 2 rfl (bl F 96) _ H u_a rfl (by rw[Y9];exact Y0)];refine G.out _ _ hHeld (λhHeld=>?_);clear G K
 (try simp only[psm])
 refine fL (rs:=[8]) (by kernel_rfl) (by simp) ?_;refine fM (o:=?o8) ?hi8 (λK G=>?_) fN
 case hi8=>simp only[gel];rfl
 go_simp;refine ft ae ?_;rintro en w5 ⟨rfl,an⟩;have a:Bl T w5:=(Zk _ _).drew.trans an;obtain⟨R,F4,c4⟩:=ag.out;have N5:=R.below a;have F5:=F4.trans (NF.of vh2 vb2 (by have:=R.c.lt;omega) a);have c5:=c4.block (a.block _ c4.ltB);obtain⟨z,ab,D⟩:=N5.first J 0 96 (λq=>F q || YZ e n (1+q)) Qo;obtain⟨Z,L,o3,o4⟩:=P.out;obtain⟨Q,hQ⟩:=nam (bl (λq=>F q || YZ e n (1+q)) 96);have ao:Q.length=96:=by rw[hQ];exact Y9 _ _
 have af:Hid (Q.toArray.all (·.oneCell')=true):=by show _=true;rw[hQ];exact YJ _ _
 have O:=hyd ao;rw[<-hQ]at z D ⊢;simp only[eP]at z ab D;have aM:=c4.ltB;have u:=c5.block (D.k w3.heap.size c5.ltB Qo (λx=>by have:=Z _ x;omega) (λx=>by have:=L _ x;omega));have aq:w5.rangeAt w3.heap.size 1 (bl (λi=>YZ e n (1+i)) 96):=c5.sub 1 96 Qo;have ar:(w5.setCells nb 2 Q).rangeAt w3.heap.size 1 (bl (λi=>YZ e n (1+i)) 96):=u.sub 1 96 Qo;have ah:=hyd3 z (F5.trans D) u;refine G.out _ _ aq (λhHeld=>?_);clear G K an a R F4 c4 N5 F5 c5 z D u Z L o3 o4 hQ ao aM ag ae H aq
 (try simp only[psm])
 refine tQ 9 ?_
 refine tQ 10 ?_
 refine tQ 11 ?_
 refine fL (rs:=[12]) (by kernel_rfl) (by simp) ?_;refine fM (o:=?o12) ?hi12 (λK G=>?_) fN
 case hi12=>simp only[gel];rfl
 rw[dF (by rfl)];refine wp_store_mid 132 _ _ rfl nb 2 Q.toArray rfl rfl (by simpa[O.out]using ab) (by simpa[O.out]using Y0) af.out ?_;rw[Zc];refine G.out _ _ ar (λhHeld=>?_);clear G K;refine fO (by kernel_rfl) ?_ _;generalize w5.setCells nb 2 Q=W6 at *;clear ab ar hHeld af O;obtain⟨z,D,u⟩:=ah.out;have aP:(r:Int)<8:=Qo
 have f6:=z.c (2+(96+r)) (.bool (Xi F 0 96 (λq=>F q || YZ e n (1+q)) (96+r))) (by rw[show 2+(96+r)=(96+r)+1+1 by omega];simp only[eG];rw[YO _ Qo]);rw[show 2+(96+r)=98+r by omega]at f6;obtain⟨al,am⟩:=f6;have e6:W6.cell? ⟨w3.heap.size,0,none⟩=some (.bool e.nul):=(u 0 _ (YO _ Qo)).1;have a:Bl W6 W6.drew:=(Zk _ _).drew;have N7:=(z.below a).first J (96+r) 1 (λ_=>e.nul) Qo;obtain⟨W7,U⟩:=nam (W6.drew.setCell ⟨nb,98+r,none⟩ (.bool e.nul));have s:W6.drew.setCells nb (2+(96+r)) (bl (λ_=>e.nul) 1)=W7:=by rw[U,show 2+(96+r)=98+r by omega];rfl
 rw[s]at N7;obtain⟨N7,_,F7⟩:=N7;obtain⟨Z,L,o3,o4⟩:=P.out;have ac:=D.trans ((NF.of vh2 vb2 (by have:=z.c.lt;omega) a).trans F7);have c7:=(u.block (a.block _ u.ltB)).block (F7.k w3.heap.size (u.block (a.block _ u.ltB)).ltB Qo (λx=>by have:=Z _ x;omega) (λx=>by have:=L _ x;omega));have N8:YB nb base vh2 vb2 (n+e.sz) (Uf hs e n) (bhR bh e n r 0) (FR F e n r) W7:=by
  have h1:=N7.congr (hs':=Uf hs e n) (bh':=bhR bh e n r 0) (λ_ _ _ _=>rfl) (λp q _ _=>by unfold bhR;simp);refine⟨?_,h1.h,h1.b,h1.ne⟩;have hF:bl (Xi (Xi F 0 96 (λq=>F q || YZ e n (1+q))) (96+r) 1 (λ_=>e.nul)) 104=bl (FR F e n r) 104:=YW (λq hq=>by
   unfold Xi FR;by_cases h2:q<96
   .rw[dG Qo,dF Qo,dF h2];simp only[Nat.sub_zero];unfold YZ;rw[dG Qo,dF Qo,show 1+q-1=q by omega]
   by_cases h3:q=96+r
   .rw[dF Qo,dG h2,dF h3]
   rw[dG Qo,dG Qo,dG h2,dG h3])
  rw[<-hF];exact h1.c
 have ai:=hyd3 N8 ac c7;have ak:=hyd U;clear z D u a N7 U s F7 Z L o3 o4 ac c7 N8 ah;go_wp2_with fail;refine wp_region_still_tail 8 (by kernel_rfl) (by kernel_rfl) ?_;simp only[ZK,f7,ZL,Zw];change wpStill _ _ W6.drew (λa'=>wpList _ _ _ _ a' W6.drew) _ _
 repeat still_step
 refine f8 ?_;have aE:=al;have aF:=am;go_wp2_with fail;have aA:(W6.setCell ⟨nb,98+r,none⟩ (.bool e.nul)).drew=W7:=by rw[ak.out];rfl
 rw[aA];clear aA
 (try simp only[Act.put])
 clear al am e6 aE aF ak
 go_loopw [7] (λx w'=>∃p:Nat,p<=n+e.sz/\x=.int .i64 p/\YB nb base vh2 vb2 (n+e.sz) (Uf hs e n) (bhR bh e n r p) (FR F e n r) w'/\NF nb vh vb vh2 vb2 w w'/\TC w3.heap.size (bl (YZ e n) 193) w') (λx _=>n+e.sz-(intOf x).toNat)
 .exact⟨0,Qo,rfl,ai⟩
 clear ai;obtain⟨p,hp,rfl,N,FN,c⟩:=hrel;have c1:=(N.c 1 _ rfl).1;by_cases av:p<n+e.sz
 .obtain⟨g,d,rfl⟩:=N.b.slc Qo;obtain⟨M,B⟩:=nam (n+e.sz);have aN:(p:Int)<M:=Qo
  have aO:(p:Int)<96:=Qo
  have cl:wr.cell? ⟨w3.heap.size,97+p,none⟩=some (.bool (e.lst n p)):=by
   have:=(c (97+p) _ (YO _ Qo)).1;rw[this];unfold YZ;rw[dG Qo,dG Qo,show 97+p-97=p by omega]
  have t:∀i q,bhR bh e n r (p+1) i q=(bhR bh e n r p i q || (decide (i=p)&&decide (q=96+r)&&e.lst n p)):=λi q=>by
   unfold bhR;by_cases y:i=p
   .subst y;simp
   by_cases e2:i<p
   .simp[y,e2,show i<p+1 by omega]
   simp[y,e2,show ¬i<p+1 by omega]
  obtain⟨x,hx⟩:=nam (e.lst n p);rw[<-hx]at cl t;cases x
  .have N2:YB nb base vh2 (.slice (some ⟨g,0,none⟩) (n+e.sz) d) (n+e.sz) (Uf hs e n) (bhR bh e n r (p+1)) (FR F e n r) wr:=N.congr (λ_ _ _ _=>rfl) (λi q _ _=>by rw[t];simp);rw[<-B]at c1;have HM:=hyd B;clear t N B hx;go_wp2_with fail;go_roundw
   .exact⟨p+1,Qo,by go_num,N2,FN,c⟩
   have:=HM.out;simp[intOf];omega
  have m:=N.b.put p (96+r) 1 (λ_=>true) av Qo;have ay:=N.b.thereAt p (96+r) 1 av Qo;obtain⟨aa,aB⟩:=ay 0 Qo;rw[eP]at aa aB;obtain⟨v1,aL⟩:=Zx.1 aa;have W:=Y8 g (bl (λ_=>true) 1) (p*104+(96+r)) wr;obtain⟨W8,V⟩:=nam (wr.setCell ⟨g,p*104+(96+r),none⟩ (.bool true));have s:wr.setCells g (p*104+(96+r)) (bl (λ_=>true) 1)=W8:=by rw[V];rfl
  rw[s]at m W;obtain⟨Z,L,o3,o4⟩:=P.out;have aI:=N.b.blk g rfl;have aH:=L g rfl;have X:=N.ne;have N2:YB nb base vh2 (.slice (some ⟨g,0,none⟩) (n+e.sz) d) (n+e.sz) (Uf hs e n) (bhR bh e n r (p+1)) (FR F e n r) W8:=by
   refine⟨N.c.block (W.block _ N.c.lt (λx=>by have:=Zh x;omega)),N.h.keep (λk I=>W.block k (N.h.blk k I).2 (λx=>by have:=Zh x;subst this;exact X k I rfl)),m.congr (λi q _ hq=>?_),X⟩;rw[t];by_cases y:i=p
   .subst y;simp only[dB,decide_true,dL,Bool.and_true];unfold Xi;by_cases e2:q=96+r
    .rw[dF Qo];simp[e2]
    rw[dG Qo];simp[e2]
   simp[y]
  have F2:NF nb vh vb vh2 (.slice (some ⟨g,0,none⟩) (n+e.sz) d) w W8:=FN.trans ⟨(Zk _ _).grown W (by have:=N.c.lt;omega) (λq hq=>by cases hq;omega),λk I _ _ h3=>W.block k I (λx=>h3 x.symm),λ_ h=>Or.inl h,λ_ h=>Or.inl h⟩;have c8:=c.block (W.block _ c.ltB (λx=>by have:=Zh x;omega));rw[<-B]at c1;have HM:=hyd B;have aD:=hyd V;rw[show p*104+(96+r)=p*104+96+r by omega]at aL aB;clear t N B hx m ay aa W s Z L o3 o4 aI aH X V FN c;go_wp2_with fail
  (try simp only[Act.put])
  rw[show p*104+96+r=p*104+(96+r) by omega,<-aD.out];go_roundw
  .exact⟨p+1,Qo,by go_num,N2,F2,c8⟩
  have:=HM.out;simp[intOf];omega
 have aJ:¬(p:Int)<((n+e.sz:Nat):Int):=Qo
 have aK:p=n+e.sz:=Qo
 subst aK;obtain⟨aQ,d,y,_⟩:=N.b.at_;rw[XB]at y;rw[y]at c1;clear c;obtain⟨M,B⟩:=nam (n+e.sz);have HN:=hyd N;have HF:=hyd FN;rw[<-B]at c1 aJ ⊢;clear N FN y B;go_wp2_with fail;go_end0;exact⟨rfl,vh2,vb2,HN,HF⟩
variable {u:Tmp}
def Eu{p:Tmp}{z:TypeId}(h:fn.results=#[.cell p z,.tmp u])(tmps:Array Value)(P:Program)(w:World):
  (results fn tmps).run P w=((asAddr (tmps.getD p undef)).run P w).andThen λa w₁=>((loadVar z a).run P w₁).andThen λv w₂=>.ok (.tuple #[v,tmps.getD u undef]) w₂:=by
 simp only[results,h];simp[fE,Result.andThen]
def XG{p:Tmp}{z:TypeId}{P:Program}{ad:Addr}{b:Value}(h:fn.results=#[.cell p z,.tmp u])(Y:tmps.getD p undef=.pointer (some ad))(J:(loadVar z ad).run P w=.ok v w)(H:tmps.getD u undef=b):
  (results fn tmps).run P w=.ok (.tuple #[v,b]) w:=by
 rw[Eu h,Y];subst H;simp[asAddr,J]
def Nb{e:TypeId}(h:w.ownsRow base e size v n xs)(z:base'<=base):w.ownsRow base' e size v n xs:=
 ⟨h.1,h.2.imp id (λ⟨g,cap,d,a,b,c⟩=>⟨g,cap,d,a,ZJ z b,c⟩)⟩
def LO(vh vb:Value)(F:Nat->Bool):List Value:=vh::vb::bl F 104
def UN(vh vb:Value)(F:N_):(LO vh vb F).length=106:=by simp[LO,Y9]
def Xs:List Value:=LO (.slice none 0 0) (.slice none 0 0) (λ_=>false)
def QR(w:World):(zeroValue 137).run prog w=.ok (.agg Xs.toArray) w:=Qk
def Vt:(prog.info? 137).map (·.size)=some 106:=Qk
def Qu(h1:vh.oneCell'=true)(h2:vb.oneCell'=true)(F:N_):(LO vh vb F).toArray.all (·.oneCell')=true:=by
 have:=YJ F 104;simp only[LO];rw[gy]at this ⊢;simp only[dD,h1,h2,this,Bool.and_self]
def XV(es:Nat->Rx):Nat->Nat->Nat->Bool
 |0=>λ_ _=>false
 |k+1=>Uf (XV es k) (es k) (Y4 es k)
def U0(es:Nat->Rx):Nat->Nat->Nat->Bool
 |0=>λ_ _=>false
 |k+1=>bhR (U0 es k) (es k) (Y4 es k) k (Y4 es (k+1))
def X6(es:Nat->Rx):Nat->Nat->Bool
 |0=>λ_=>false
 |k+1=>FR (X6 es k) (es k) (Y4 es k) k
def E1:∀ {rs:List Pt}{z:List Tq},ps.map Pg.Pt.strip=rs->Fz s ps->XK (Mo s) rs z->XK Sm ps z:=by
 induction ps with
 |nil=>intro rs z h _ a;subst h;cases a;exact XK.nil
 |cons p ps ih=>
  intro rs z h c a;subst h;cases a with
  |cons h t=>
   refine XK.cons ⟨h.1,h.2.1,h.2.2.1,λb=>?_⟩ (ih rfl (λx d=>c x (by simp[d])) t);rw[c p Qs b];exact h.2.2.2 b
def yO(v:Value)(e r a:Int)(w:World)(Y:e≠0)(hC:∀W,Bl w W->Cp 124 #[v] W λe' w'=>e'=.returned (.tuple #[I6 e,I6 r,I6 a])/\Bl W w'):
  Cp 64 #[v] w λen w'=>en=.returned (.tuple #[.agg Xs.toArray,I6 e])/\Bl w w':=by
 have hz:=QR;have F:(e==0)=false:=by simpa using Y
 have K:(e != 0)=true:=by simp[Y]
 let⟨W1,f⟩:=nam ((w.alloc (.cells Xs.toArray 137)).alloc (.cells Xs.toArray 137));have m:(w.alloc (.cells Xs.toArray 137)).heap.size=w.heap.size+1:=Qs
 have C:=TC.boxed w Xs 137;have o:=TC.boxed (w.alloc (.cells Xs.toArray 137)) Xs 137;have x1:=box_bel w (.cells Xs.toArray 137);have x2:=box_bel (w.alloc (.cells Xs.toArray 137)) (.cells Xs.toArray 137);rw[<-f]at o x2;rw[m]at o;have p:Bl w W1:=x1.trans (x2.mono Qo);have D:TC w.heap.size Xs W1:=C.block (x2.block _ Qo);have A:=hyd (hC W1 p);have j:=hyd f;have n:W1.heap.size=w.heap.size+2:=by rw[f];simp
 have d:Hid (W1.heap.size=w.heap.size+2):=n;have B:Hid (TC w.heap.size Xs W1/\TC (w.heap.size+1) Xs W1/\Bl w W1):=⟨D,o,p⟩;clear hC f m C o x1 x2 p D n Y;go_enter func64,ntmps64;go_wp2_with fail;rw[<-j.o];apply A.o.mono;rintro en w2 ⟨rfl,b⟩;let⟨H,I,J⟩:=B.o;have u1:=H.block (b.block _ (by have:=d.o;omega));have u2:=I.block (b.block _ (by have:=d.o;omega));have G:=u2.range;have y:=u1.there;have E:=Y8 w.heap.size Xs 0 w2;have l:=Zo w2 w.heap.size 0 Xs y;have c:=ZF (P:=prog) (w2.setCells w.heap.size 0 Xs) w.heap.size 0 137 Xs _ l u_o rfl Vt;have z:=(J.trans (b.mono (by have:=d.o;omega))).grown E (by have:=d.o;have:=b.size;omega) (λq F=>by cases F;omega);obtain⟨u,h⟩:∃W,W=w2.setCells w.heap.size 0 Xs:=⟨_,rfl⟩;rw[<-h]at c z;have k:Hid (u=w2.setCells w.heap.size 0 Xs):=h;have g:Hid ((loadVar 137 (a_ w.heap.size 0)).run prog u=.ok (.agg Xs.toArray) u):=c;have i:Hid (Xs.toArray.all (·.oneCell')=true):=Qu rfl rfl _;have s:Hid (Xs.length=106):=UN _ _ _;obtain⟨Z,x⟩:∃Z,Z=Xs:=⟨_,rfl⟩;rw[<-x]at G y k g i s;have t:Hid (Z=Xs):=x;clear H I J u1 u2 E l c h b B A j x;go_wp2_with (first|(with_reducible apply gld 137;refine Zb rfl 137 _ rfl (w.heap.size+1) 0 rfl Z _ G u_o rfl (by rw[s.o];exact Vt) ?_)|(with_reducible apply gst 137;apply Za rfl 137 _ _ rfl w.heap.size 0 Z.toArray rfl rfl (by simpa using y) (by simpa[s.o]using Vt) i.o;rw[Zc,<-k.o]));apply Zr (v:=.tuple #[.agg Z.toArray,I6 e]) (XG results64 rfl g.o rfl) rfl;exact⟨by rw[t.o],z⟩
def AQ(es:Nat->Rx)(n:Nat)(w:World)(en:Ending)(w':World):Prop:=
 ∃vh vb,en=.returned (.tuple #[.agg (LO vh vb (X6 es n)).toArray,.int .i64 0])/\Wu w.heap.size vh (UZ (Y4 es n) (XV es n)) w'/\XL w.heap.size vb (UZ (Y4 es n) (U0 es n)) w'/\Below w.heap.size w w'
def yj(b aE cap n:Nat)(f:Nat->ByteArray)(w:World)(h1:1<=n)(h8:n<=8)(hb:b<w.heap.size)(hm:∀i,i<n->(f i).size<=maxLen)(hr:RL b aE f n w)(aC:∀j,j<n->(Pg.gP (Y7 (f j)) (f j).size).1=0)(aD:¬96<X8 (λj=>Yh (f j)) n):
  Cp 64 #[.slice (some (a_ b aE)) n cap] w (AQ (λj=>TZ (f j)) n w):=by
 have hz:=QR;obtain⟨es,r⟩:∃es:Nat->Rx,es=λj=>TZ (f j):=⟨_,rfl⟩
 rw[<-r];have J:∀j,j<n->(Pg.ie (Y7 (f j)) (f j).size).ok=true:=λj hj=>((XQ (f j)).2 (aC j hj)).2.2
 have ay:=(Ok es (λj=>Yh (f j)) n (λi E=>by rw[r];exact Sg (f i) (J i E)) aD).2;have HC:Hid (∀W,Bl w W->Cp 124 #[.slice (some (a_ b aE)) n cap] W λe' w'=>e'=.returned (.tuple #[I6 0,I6 0,I6 0])/\Bl W w'):=λW U=>
  O9 b aE cap n f 0 0 0 W h1 h8 (by have:=U.size;omega) hm (hr.below hb U) (Or.inr ⟨aC,rfl,rfl,by rw[dG aD]⟩)
 have al:Hid (∀i,i<n->∀W,Cp 125 #[.string (f i)] W λen w'=>∃ad cp ps,en=.returned (.tuple #[.slice ad ps.length cp,I6 0,I6 (Pg.gP (Y7 (f i)) (f i).size).2])/\Bl W w'/\PS ad ps w'/\ps.length<=100/\ps.length<=cp/\(∀g o x,ad=some ⟨g,o,x⟩->W.heap.size<=g/\g<w'.heap.size)/\(∀p∈ps,0<=p.mo/\p.mo<=9)/\∃F L,Pp F 2 L (es i)/\XK Sm ps L):=by
  intro i E W;apply(Pm (f i) W (hm i E)).mono;rintro en w' ⟨v,ps,rfl,U,H⟩;let⟨hO,K,hl,ab⟩:=H (aC i E);let⟨L,F,_,_,q3,q4⟩:=Ua (f i) (J i E);have t:∀p∈ps,0<=p.mo/\p.mo<=9:=λp hp=>by
   have:=Pg.iD (Y7 (f i)) (f i).size p.strip (by rw[<-K];exact eV.2 ⟨p,hp,rfl⟩);exact this
  rcases hO.2 with ⟨rfl,h0⟩|⟨g,cp,ax,rfl,ao,aa,ap,_⟩
  .have au:=dA h0;subst au;exact⟨none,0,[],by rw[aC i E];rfl,U,λk p hp=>by simp at hp,Qs,Qs,(λg o x h=>by cases h),t,F,L,by rw[r];exact q4,E1 K ab q3⟩
  refine⟨some (a_ g 0),cp,ps,by rw[aC i E],U,λk p hp=>⟨g,0,rfl,?_⟩,hl,ap,λg' o x h=>?_,t,F,L,by rw[r];exact q4,E1 K ab q3⟩
  .have:=UQ hO k p hp;rw[Zn];exact this
  cases h;refine⟨ao,?_⟩;rcases ZD g w'.heap.size with h|h
  .exact h
  rw[fC h]at aa;cases aa
 let⟨W1,C⟩:=nam ((w.alloc (.cells Xs.toArray 137)).alloc (.cells Xs.toArray 137));have af:(w.alloc (.cells Xs.toArray 137)).heap.size=w.heap.size+1:=Qs
 have T1:=TC.boxed w Xs 137;have T2:=TC.boxed (w.alloc (.cells Xs.toArray 137)) Xs 137;have x1:=box_bel w (.cells Xs.toArray 137);have x2:=box_bel (w.alloc (.cells Xs.toArray 137)) (.cells Xs.toArray 137);rw[<-C]at T2 x2;rw[af]at T2;have B1:Bl w W1:=x1.trans (x2.mono Qo);have U1:TC w.heap.size Xs W1:=T1.block (x2.block _ Qo);have M:=hyd (HC W1 B1);have R:=hyd C;have ah:W1.heap.size=w.heap.size+2:=by rw[C];simp
 have A:=hyd ah;have HT:=hyd3 U1 T2 B1;have Hr:=hyd hr;clear HC C af T1 T2 x1 x2 B1 U1 ah hm aC aD J hr r;go_enter func64,ntmps64;go_wp2_with fail;rw[<-R.o];apply M.o.mono;rintro en w2 ⟨rfl,l⟩;let⟨t1,t2,t3⟩:=HT.o;have u1:=t1.block (l.block _ (by have:=A.o;omega));have u2:=t2.block (l.block _ (by have:=A.o;omega));have B2:Bl w w2:=t3.trans (l.mono (by have:=A.o;omega));have ai:w.heap.size+2<=w2.heap.size:=by have:=A.o;have:=l.size;omega
 have N0:YB (w.heap.size+1) (w.heap.size+2) (sN) (sN) (Y4 es 0) (XV es 0) (U0 es 0) (X6 es 0) w2:=⟨u2,Wu.nil _ _,XL.nil _ _,λk H=>by cases H⟩;have aA:(n:Int)<=8:=Qo
 clear t1 t2 t3 u2 l HT M R;go_wp2_with fail
 go_loopw [25] (λx w'=>∃(i:Nat) (vh vb:Value),x=I6 i/\i<=n/\YB (w.heap.size+1) (w.heap.size+2) vh vb (Y4 es i) (XV es i) (U0 es i) (X6 es i) w'/\Bl w w'/\TC w.heap.size Xs w'/\w.heap.size+2<=w'.heap.size) (λx _=>n-(intOf x).toNat)
 .exact⟨0,sN,sN,rfl,Qo,N0,B2,u1,ai⟩
 clear N0 B2 u1 ai;obtain⟨i,vh,vb,rfl,E,N,B,u,hw⟩:=hrel;by_cases I:i<n
 .have aw:(i:Int)<n:=Qo
  have ci:=(Hr.o.below hb B) i I;have Q:=hyd (al i I wr);go_wp2_with fail;apply Q.o.mono;rintro en w3 ⟨ad,cp,ps,rfl,m,T,hl,Y,ag,t,F,L,ac,X⟩;have N3:=N.below m;have a:=N.h.blk;have d:=N.b.blk;have aB:=m.size;have ar:Y4 es i+(es i).sz<=96:=by have:=X7 es (show i+1<=n from I);simp only[Y4]at this;omega
  have O:Hid (Cp 126 #[.pointer (some (a_ (w.heap.size+1) 0)),.slice ad ps.length cp,I6 i] w3 λen w'=>∃vh' vb',en=.returned (.tuple #[])/\YB (w.heap.size+1) (w.heap.size+2) vh' vb' (Y4 es i+(es i).sz) (Uf (XV es i) (es i) (Y4 es i)) (bhR (U0 es i) (es i) (Y4 es i) i (Y4 es i+(es i).sz)) (FR (X6 es i) (es i) (Y4 es i) i) w'/\NF (w.heap.size+1) vh vb vh' vb' w3 w'):=
   zE F L (es i) ps ad cp (w.heap.size+1) (w.heap.size+2) vh vb (Y4 es i) (XV es i) (U0 es i) (X6 es i) i w3 ac X ⟨N3,Qo,Qo,T,hl,Y,λg o x h=>by
    let⟨g1,g2⟩:=ag g o x h;exact⟨g2,Qo,λe=>by have:=(a g e).2;omega,λe=>by have:=(d g e).2;omega⟩⟩ ar t Qo
  have B3:=B.trans (m.mono B.size);have u3:=u.block (m.block _ Qo);clear T hl Y ag t ac X N N3 a d ci Q;go_wp2_with fail;apply O.o.mono;rintro en w4 ⟨vh2,vb2,rfl,N4,F4⟩;have B4:Bl w w4:=B3.trans (F4.b.mono Qo);have u4:=u3.block (F4.b.block _ Qo);have av:w.heap.size+2<=w4.heap.size:=by have:=F4.b.size;omega
  clear F4 B3 u3 O m;go_wp2_with fail;go_roundw
  .exact⟨i+1,vh2,vb2,Qg,Qo,N4,B4,u4,av⟩
  simp[intOf];omega
 have az:¬(i:Int)<n:=Qo
 have aq:i=n:=Qo
 subst aq;have rN:=N.c.range;have tA:=u.there;let⟨Z,V⟩:=nam (LO vh vb (X6 es i));have D:Z.length=106:=by rw[V];exact UN _ _ _
 rw[show(vh::vb::bl (X6 es i) 104)=Z from V.symm]at rN;have aj:Xs.length=106:=UN _ _ _;rw[aj]at tA;have hG:=Y8 w.heap.size Z 0 wr;have ae:=Zo wr w.heap.size 0 Z (by rw[D];exact tA);have s:=ZF (P:=prog) (wr.setCells w.heap.size 0 Z) w.heap.size 0 137 Z _ ae u_o rfl (by rw[D];exact Vt);have BX:=B.grown hG B.size (λq hq=>by cases hq;omega);have a:=N.h.blk;have d:=N.b.blk;have OH:=(N.h.grown hG (λk H e=>by have:=Zh e;have:=(a k H).1;omega));have OB:=(N.b.grown hG (λk H e=>by have:=Zh e;have:=(d k H).1;omega));have y:vh.oneCell'=true:=by let⟨a1,c1,e1,_⟩:=N.h.at_;rw[e1];rfl
 have z:vb.oneCell'=true:=by let⟨a1,c1,e1,_⟩:=N.b.at_;rw[e1];rfl
 have ak:Hid (Z.toArray.all (·.oneCell')=true):=by show _=true;rw[V];exact Qu y z _
 let⟨WX,G⟩:=nam (wr.setCells w.heap.size 0 Z);rw[<-G]at s BX OH OB;have am:=hyd G;have S:=hyd s;have HZ:=hyd D;have an:=hyd V;have HO:Hid (Wu w.heap.size vh (UZ (Y4 es i) (XV es i)) WX/\XL w.heap.size vb (UZ (Y4 es i) (U0 es i)) WX/\Bl w WX):=⟨Nb OH Qo,Nb OB Qo,BX⟩;clear N B u hG ae s a d OH OB y z G D V BX aj;go_wp2_with (first|(with_reducible apply gld 137;refine Zb rfl 137 _ rfl (w.heap.size+1) 0 rfl Z _ rN u_o rfl (by rw[HZ.o];exact Vt) ?_)|(with_reducible apply gst 137;apply Za rfl 137 _ _ rfl w.heap.size 0 Z.toArray rfl rfl (by simpa[HZ.o]using tA) (by simpa[HZ.o]using Vt) ak.o;rw[Zc,<-am.o]));apply Zr (v:=.tuple #[.agg Z.toArray,I6 0]) (XG results64 rfl S.o rfl) rfl;exact⟨vh,vb,by rw[an.o],HO.o.1,HO.o.2.1,HO.o.2.2⟩
