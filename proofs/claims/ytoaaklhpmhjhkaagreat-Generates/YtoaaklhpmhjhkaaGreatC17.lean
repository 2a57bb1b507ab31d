import Derived.Test.YtoaaklhpmhjhkaaGreatC09
import Derived.Test.YtoaaklhpmhjhkaaGreatC15
import Derived.Test.YtoaaklhpmhjhkaaGreatC16
set_option maxRecDepth 100000
set_option maxHeartbeats 4000000
set_option linter.all false
namespace Go.Proofs.YtoaaklhpmhjhkaaGreat
open Go.RowKit
open Bm
open Pg (Pt)
theorem CY (ps:List Pt):∀op i,Rh ps op i=Pz (ps.map λp=>p.kd) op i:=by
 induction ps with
 |nil=>intro op i;rfl
 |cons p ps ih=>intro op i;simp only[Rh,List.map_cons,Pz,ih]
theorem Dp (ps:List Pt):∀op i,Wv ps op i=UH (ps.map λp=>p.kd) op i:=by
 induction ps with
 |nil=>intro op i;rfl
 |cons p ps ih=>intro op i;simp only[Wv,List.map_cons,UH,ih]
variable {a:Act}{ops:Array Oper}{tmps:Array Value}{s:ByteArray}{fn:Func}{fa kd le mo pl:Int}{rest:List Oper}{ps:List Pt}{L xs:List Value}{B D base base' g m m2 n nb size:Nat}{F f:N_}{bh bh2 hs hs2:Nat->N_}{op:Oper}{ad:Option Addr}{e:Rx}{v vb vb' vb2 vh vh' vh2:Value}{w w' w'':World}
theorem Ft {f:Nat}{r:List Tq}{rest:List Int} (h:Pp f 1 r e) (y:ps.map (λp=>p.kd)=kds r++rest) (z:rest=[]\/∃t,rest=4::t):Rh ps 0 0=r.length:=by
 rw[CY,y,(JW f 1 r e h).2.1 0 0 rest (Or.inr ⟨rfl,Zg _⟩)];rcases z with rfl|⟨t,rfl⟩
 ·simp[Pz]
 simp[Pz]
theorem Fy (ps:List Pt) (m:Nat):∀(u i:Nat),i<=m->m<u+i->(∀j,i<=j->j<m->∃p,ps[j]?=some p/\Pg.isSuffix p.kd=true)->(∀p,ps[m]?=some p->Pg.isSuffix p.kd=false)->M8 ps u i=m:=by
 intro u
 induction u with
 |zero=>intro i h1 h2;omega
 |succ u ih=>
  intro i h1 h2 h3 d;rw[M8];by_cases e:i=m
  ·subst e;rcases c:ps[i]? with _|p
   ·rfl
   simp only[d p c];rfl
  obtain⟨p,c,hs⟩:=h3 i (Zg _) (by omega);rw[c];simp only[hs,if_true];exact ih (i+1) (by omega) (by omega) (λj a b=>h3 j (by omega) b) d
theorem Jd {f:Nat}{t:List Tq}{rest:List Int} (h:Pp f 0 t e) (y:ps.map (λp=>p.kd)=kds t++rest) (z:∀k r,rest=k::r->Pg.isSuffix k=false):Oj ps=t.length:=by
 obtain⟨m,o,m2,i,l⟩:=(JW f 0 t e h).2.2 rfl;have n:ps.length=t.length+rest.length:=by
  have:=congrArg List.length y;simpa[Pi]using this
 unfold Oj;rw[Dp,y,i 0 rest,Zn];have c:∀(j:Nat) (p:Pt),ps[j]?=some p->(kds t++rest)[j]?=some p.kd:=λj p d=>by rw[<-y,List.getElem?_map,d];rfl
 refine Fy ps t.length _ m m2 (by omega) (λj a b=>?_) (λp d=>?_)
 ·have g:j<ps.length:=by omega
  refine⟨ps[j],Zd g,?_⟩;have h1:=c j _ (Zd g);rw[Zv (by rw[Pi];exact b)]at h1;have h2:t[j]∈t.drop m:=by
   rw[List.mem_iff_getElem?];exact⟨j-m,by rw[List.getElem?_drop,show m+(j-m)=j by omega];exact Zd b⟩
  have h3:=l _ h2;simp only[kds,List.getElem?_map,Zd b,Option.map_some,Zp]at h1;rw[<-h1];unfold Yc at h3;simp only[Pg.isSuffix,Bool.or_eq_true,beq_iff_eq];omega
 have h1:=c _ p d;rw[ZG (by rw[Pi];omega),Pi,Nat.sub_self]at h1;rcases rest with _|⟨k,r⟩
 ·cases h1
 simp at h1;rw[<-h1];exact z k r rfl
def YZ (e:Rx) (n:Nat):Nat->Bool:=λi=>if i=0 then e.nul else if i<97 then e.fst n (i-1) else e.lst n (i-97)
def Uy (hs:Nat->Nat->Bool) (e:Rx) (n:Nat):Nat->Nat->Bool:=λp b=>if p<n then hs p b else e.has n p b
def Tu (bh:Nat->Nat->Bool) (e:Rx) (n:Nat):Nat->Nat->Bool:=λp q=>if p<n then bh p q else e.fol n p q
theorem CI (a b:Rx) (n i:Nat) (y:i<193):jn (YZ a n) (YZ b (n+a.sz)) i=YZ (.cat a b) n i:=by
 unfold jn YZ;by_cases h0:i=0
 ·subst h0;simp[Rx.nul]
 by_cases h1:i<97
 ·simp[h0,h1,Rx.fst]
 simp[h0,h1,Rx.lst]
theorem DK (bh:Nat->N_) (a b:Rx) (n p q:Nat) (z:n+a.sz+b.sz<=96) (y:p<n+a.sz+b.sz):
  PU (Tu (Tu bh a n) b (n+a.sz)) (λp=>YZ a n (97+p)) (λq=>YZ b (n+a.sz) (1+q)) (n+a.sz+b.sz) p q=Tu bh (.cat a b) n p q:=by
 unfold PU Tu YZ;simp only[y,decide_true,Bool.true_and,show ∀x:Nat,¬(97+x=0) from λx=>by omega,show ∀x:Nat,¬(97+x<97) from λx=>by omega,show ∀x:Nat,¬(1+x=0) from λx=>by omega,if_false,Nat.add_sub_cancel_left];have c:(decide (q<96)&&(if 1+q<97 then b.fst (n+a.sz) q else b.lst (n+a.sz) (1+q-97)))=b.fst (n+a.sz) q:=by
  by_cases h:q<96
  ·simp[h,show 1+q<97 by omega]
  simp only[h,decide_false,Bool.false_and];exact(Rx.fst_lt (Or.inr (by omega))).symm
 rw[Bool.and_assoc,c];by_cases h1:p<n
 ·rw[p_,if_pos h1,if_pos h1,Rx.lst_lt (Or.inl h1)];simp
 by_cases h2:p<n+a.sz
 ·rw[if_pos h2,if_neg h1,if_neg h1];simp only[Rx.fol];rw[Rx.fol_lt (e:=b) (Or.inl h2)];simp
 rw[if_neg h2,if_neg h1,Rx.lst_lt (Or.inr (by omega))];simp only[Rx.fol];rw[Rx.fol_lt (e:=a) (Or.inr (Or.inl (by omega))),Rx.lst_lt (e:=a) (Or.inr (by omega))];simp
theorem In (hs:Nat->N_) (a b:Rx) (n p c:Nat):Uy (Uy hs a n) b (n+a.sz) p c=Uy hs (.cat a b) n p c:=by
 unfold Uy;by_cases h1:p<n
 ·rw[p_,if_pos h1,if_pos h1]
 by_cases h2:p<n+a.sz
 ·rw[if_pos h2,if_neg h1,if_neg h1];simp only[Rx.has];rw[Rx.has_lt (e:=b) (Or.inl h2),Bool.or_false]
 rw[if_neg h2,if_neg h1];simp only[Rx.has];rw[Rx.has_lt (e:=a) (Or.inr (by omega)),Bool.false_or]
theorem GY (a b:Rx) (n i:Nat):(YZ a n i || YZ b (n+a.sz) i)=YZ (.alt a b) n i:=by
 unfold YZ;by_cases h0:i=0
 ·subst h0;simp[Rx.nul]
 by_cases h1:i<97
 ·simp[h0,h1,Rx.fst]
 simp[h0,h1,Rx.lst]
theorem Dq (bh:Nat->N_) (a b:Rx) (n p q:Nat):Tu (Tu bh a n) b (n+a.sz) p q=Tu bh (.alt a b) n p q:=by
 unfold Tu;by_cases h1:p<n
 ·rw[p_,if_pos h1,if_pos h1]
 by_cases h2:p<n+a.sz
 ·rw[if_pos h2,if_neg h1,if_neg h1];simp only[Rx.fol];rw[Rx.fol_lt (e:=b) (Or.inl h2),Bool.or_false]
 rw[if_neg h2,if_neg h1];simp only[Rx.fol];rw[Rx.fol_lt (e:=a) (Or.inr (Or.inl (by omega))),Bool.false_or]
theorem DF (hs:Nat->N_) (a b:Rx) (n p c:Nat):Uy (Uy hs a n) b (n+a.sz) p c=Uy hs (.alt a b) n p c:=In hs a b n p c
theorem Kr (bh:Nat->N_) (a:Rx) (n p q:Nat) (z:n+a.sz<=96) (y:p<n+a.sz):
  PU (Tu bh a n) (λp=>YZ a n (97+p)) (λq=>YZ a n (1+q)) (n+a.sz) p q=Tu bh (.star a) n p q:=by
 unfold PU Tu YZ;simp only[y,decide_true,Bool.true_and,show ∀x:Nat,¬(97+x=0) from λx=>by omega,show ∀x:Nat,¬(97+x<97) from λx=>by omega,show ∀x:Nat,¬(1+x=0) from λx=>by omega,if_false,Nat.add_sub_cancel_left];have b:(decide (q<96)&&(if 1+q<97 then a.fst n q else a.lst n (1+q-97)))=a.fst n q:=by
  by_cases h:q<96
  ·simp[h,show 1+q<97 by omega]
  simp only[h,decide_false,Bool.false_and];exact(Rx.fst_lt (Or.inr (by omega))).symm
 rw[Bool.and_assoc,b];by_cases h1:p<n
 ·rw[if_pos h1,if_pos h1,Rx.lst_lt (Or.inl h1)];simp
 rw[if_neg h1,if_neg h1];rfl
def C9 (ad:Option Addr) (nb:Nat) (vh vb:Value) (w:World):Prop:=∀g o i,ad=some ⟨g,o,i⟩->g<w.heap.size/\g≠nb/\vh.ownBlock≠some g/\vb.ownBlock≠some g
theorem C9.nf (h:C9 ad nb vh vb w) (f:NF nb vh vb vh' vb' w w'):C9 ad nb vh' vb' w':=λg o i e=>by
 obtain⟨h1,h2,h3,a⟩:=h g o i e;have hs:=f.b.size;refine⟨by omega,h2,λx=>?_,λx=>?_⟩
 ·rcases f.oh g x with h|h
  ·exact h3 h
  omega
 rcases f.ob g x with h|h
 ·exact a h
 omega
theorem C9.sub (h:C9 ad nb vh vb w) (cap l:Nat):C9 (PA ad cap l) nb vh vb w:=λg o i e=>by
 unfold PA at e;split at e
 ·exact h g o i e
 rcases ad with _|⟨a,c,b⟩
 ·cases e
 simp only[Option.map_some,Zp]at e;have:(Addr.add ⟨a,c,b⟩ (l*261)).block=a:=by unfold Addr.add;split<;>rfl
 rw[e]at this;simp only at this;subst this;exact h g c b rfl
theorem PS.nf (h:PS ad ps w) (s:C9 ad nb vh vb w) (f:NF nb vh vb vh' vb' w w'):PS ad ps w':=h.keep (λg o e=>by
 obtain⟨h1,h2,h3,a⟩:=s g o none e;exact f.k g h1 h2 h3 a)
structure SK (nb base:Nat) (vh vb:Value) (n:Nat) (hs bh:Nat->Nat->Bool) (F:Nat->Bool) (ad:Option Addr) (cap:Nat) (ps:List Pt) (w:World):Prop where
 net:YH nb base vh vb n hs bh F w
 lnb:nb<base
 bw:base<=w.heap.size
 prt:PS ad ps w
 len:ps.length<=100
 lcap:ps.length<=cap
 sep:C9 ad nb vh vb w
def VM (nb base:Nat) (vh vb:Value) (n:Nat) (hs bh:Nat->Nat->Bool) (F:Nat->Bool) (e:Rx) (w:World) (en:Ending) (w':World):Prop:=
 ∃vh' vb',en=.returned (.agg (bl (YZ e n) 193).toArray)/\YH nb base vh' vb' (n+e.sz) (Uy hs e n) (Tu bh e n) F w'/\NF nb vh vb vh' vb' w w'
def Qc (fn:Nat) (k f:Nat):Prop:=∀(ts:List Tq) (e:Rx) (ps:List Pt) (ad:Option Addr) (cap nb base:Nat) (vh vb:Value) (n:Nat) (hs bh:Nat->Nat->Bool) (F:Nat->Bool) (w:World),Pp f k ts e->XU Sm ps ts->SK nb base vh vb n hs bh F ad cap ps w->n+e.sz<=96->(∀p∈ps,0<=p.mo/\p.mo<=9) ->
 Calls Tryz.prog fn #[.pointer (some ⟨nb,0,none⟩),.slice ad ps.length cap] w (VM nb base vh vb n hs bh F e w)
theorem Qw (n i:Nat) (y:i<193):YZ .eps n i=RM i:=by
 unfold YZ RM;by_cases h0:i=0
 ·subst h0;rfl
 simp[h0,Rx.fst,Rx.lst]
theorem I2 (h:YH nb base vh vb n hs bh F w):YH nb base vh vb (n+Rx.eps.sz) (Uy hs .eps n) (Tu bh .eps n) F w:=
 YH.congr (show YH nb base vh vb (n+0) hs bh F w from h) (λp q a _=>by unfold Uy;rw[if_pos (by simpa[Rx.sz]using a)]) (λp q a _=>by unfold Tu;rw[if_pos (by simpa[Rx.sz]using a)])
structure RW (nb base:Nat) (vh vb vh' vb':Value) (n:Nat) (hs bh:Nat->Nat->Bool) (F:Nat->Bool) (E:Rx) (w w':World) (A B:Nat):Prop where
 net:YH nb base vh' vb' (n+E.sz) (Uy hs E n) (Tu bh E n) F w'
 nf:NF nb vh vb vh' vb' w w'
 a:TC A (bl (fun _=>false) 193) w'
 b:TC B (bl (YZ E n) 193) w'
 o1:∀k,vh'.ownBlock=some k->k<A\/B<k
 o2:∀k,vb'.ownBlock=some k->k<A\/B<k
structure RC (nb base:Nat) (w:World) (A B:Nat):Prop where
 g1:nb<A
 g2:A<B
 g4:A=w.heap.size
 g7:nb<base
 g8:base<=w.heap.size
theorem RW.call {E:Rx}{A:Nat} (h:RW nb base vh vb vh' vb' n hs bh F E w w' A B) (c:RC nb base w A B) (y:NF nb vh' vb' vh2 vb2 w' w''):
  TC A (bl (λ_=>false) 193) w''/\TC B (bl (YZ E n) 193) w''/\NF nb vh vb vh2 vb2 w w''/\(∀k,vh2.ownBlock=some k->k<A\/B<k)/\(∀k,vb2.ownBlock=some k->k<A\/B<k):=by
 have f:=c.g1;have g:=c.g2;have i:=h.b.ltB;refine⟨h.a.block (y.k A (by omega) (by omega) (λe=>by have:=h.o1 A e;omega) (λe=>by have:=h.o2 A e;omega)),h.b.block (y.k B (by omega) (by omega) (λe=>by have:=h.o1 B e;omega) (λe=>by have:=h.o2 B e;omega)),h.nf.trans y,λk d=>?_,λk d=>?_⟩
 ·rcases y.oh k d with e|e
  ·exact h.o1 k e
  exact Or.inr (by omega)
 rcases y.ob k d with e|e
 ·exact h.o2 k e
 exact Or.inr (by omega)
theorem UM (w:World) (f:N_):TC w.heap.size (bl f 193) ((w.alloc (.cells (bl (λ_=>false) 193).toArray 247)).setCells w.heap.size 0 (bl f 193))/\Bl w ((w.alloc (.cells (bl (λ_=>false) 193).toArray 247)).setCells w.heap.size 0 (bl f 193))/\((w.alloc (.cells (bl (λ_=>false) 193).toArray 247)).setCells w.heap.size 0 (bl f 193)).heap.size=w.heap.size+1:=by
 have T:=TC.boxed w (bl (λ_=>false) 193) 247;have x:=box_bel w (.cells (bl (λ_=>false) 193).toArray 247);have a:=Y8 w.heap.size (bl f 193) 0 (w.alloc (.cells (bl (λ_=>false) 193).toArray 247));refine⟨?_,x.grown a x.size (λq b=>by cases b;omega),by rw[UC];simp⟩;have:=T.setPart 0 193 f (by omega);rw[YU (g:=f) (λi c=>by unfold Xp;rw[p_];rfl)]at this;exact this
variable {e2:Rx}
theorem RW.step {E:Rx}{H z:World}{A:Nat} (c:RC nb base w A B) (hA:TC A (bl (λ_=>false) 193) H) (hB:TC B (bl (YZ E n) 193) H) (hf:NF nb vh vb vh2 vb2 w H) (J:∀k,vh2.ownBlock=some k->k<A\/B<k) (Y:∀k,vb2.ownBlock=some k->k<A\/B<k)
  (Z:YH nb base vh2 vb2 (n+E.sz+e2.sz) (Uy (Uy hs E n) e2 (n+E.sz)) (PU (Tu (Tu bh E n) e2 (n+E.sz)) (λp=>YZ E n (97+p)) (λq=>YZ e2 (n+E.sz) (1+q)) (n+E.sz+e2.sz)) F z) (y:NF nb vh2 vb2 vh2 vb2 H z) (hn:n+E.sz+e2.sz<=96):
  z.there B 0 193/\RW nb base vh vb vh2 vb2 n hs bh F (.cat E e2) w (z.setCells B 0 (bl (jn (YZ E n) (YZ e2 (n+E.sz))) 193)) A B:=by
 have o:=c.g1;have r:=c.g2;have s:=c.g4;have j:=hB.ltB;have d:=hA.block (y.k A (by omega) (by omega) (λe=>by have:=J A e;omega) (λe=>by have:=Y A e;omega));have TB:=hB.block (y.k B (by omega) (by omega) (λe=>by have:=J B e;omega) (λe=>by have:=Y B e;omega));have a:=Y8 B (bl (jn (YZ E n) (YZ e2 (n+E.sz))) 193) 0 z;refine⟨Yi TB,?_⟩;have h:=Z.mine a (by omega) (λe=>by have:=J B e;omega) (λe=>by have:=Y B e;omega);have f:=(hf.trans y).mine a (by omega) (by omega);have b:(Rx.cat E e2).sz=E.sz+e2.sz:=rfl;refine⟨?_,f,d.block (a.block A d.ltB (λe=>by have:=Zh e;omega)),?_,J,Y⟩
 ·rw[b,<-ZN];exact h.congr (λp q _ _=>In hs E e2 n p q) (λp q m _=>DK bh E e2 n p q hn m)
 have:=TB.setPart 0 193 (jn (YZ E n) (YZ e2 (n+E.sz))) (by omega);rw[YU (g:=YZ (.cat E e2) n) (λi l=>by unfold Xp;rw[p_];exact CI E e2 n i l)]at this;exact this
theorem IN (f:Nat) (hP:Qc 210 0 f) (ts:List Tq) (e:Rx) (ps:List Pt) (ad:Option Addr) (cap nb base:Nat) (vh vb:Value) (n:Nat) (hs bh:Nat->N_) (F:N_) (le mo:Nat) (w:World) (hp:Pp f 0 ts e) (hb:XU Sm ps ts) (aO:SK nb base vh vb n hs bh F ad cap ps w) (hn:n+mo*e.sz<=96) (aP:∀p∈ps,0<=p.mo/\p.mo<=9) (aR:mo<=9) (aQ:le<=9):
  Cp 220 #[pT nb,.slice ad ps.length cap,I6 le,I6 mo] w (VM nb base vh vb n hs bh F (Rx.rowOf (Rx.copies e le mo)) w):=by
 have hz:=Wo;have aN:=aO.net.c.lt;obtain⟨A,hA⟩:=nam w.heap.size;obtain⟨W1,ab⟩:=nam (w.alloc (.cells (bl (λ_=>false) 193).toArray 247));have T1:=TC.boxed w (bl (λ_=>false) 193) 247;have x1:=box_bel w (.cells (bl (λ_=>false) 193).toArray 247);rw[<-ab]at T1 x1;rw[<-hA]at T1;have HA:=hyd hA;have Y:=hyd ab;have HP:=hyd hP;have Hp:=hyd hp;have Hb:=hyd hb;have m:=hyd aO;have aG:=hyd aP;have aH:=hyd2 x1 T1;have Hn:=hyd hn;clear hP hp hb aO aP hA ab T1 x1 hn;go_enter Tryz.func220,Tryz.ntmps220;go_wp2_with fail;rw[<-Y.out];refine Calls.mono (Te W1) ?_;rintro en w1 ⟨rfl,D⟩;obtain⟨s,o,b3⟩:=UM w1 RM;have az:(w1.alloc (.cells (bl (λ_=>false) 193).toArray 247)).there w1.heap.size 0 193:=Yi (TC.boxed w1 _ _);obtain⟨B,hB⟩:=nam w1.heap.size;obtain⟨L0,J⟩:=nam (bl RM 193);obtain⟨W2,L⟩:=nam ((w1.alloc (.cells (bl (λ_=>false) 193).toArray 247)).setCells w1.heap.size 0 (bl RM 193));rw[<-L]at s o b3;rw[<-J]at L ⊢;have U:Hid (L0.length=193):=by show _=_;rw[J];exact Y9 _ _
 have aj:Hid (L0.toArray.all (·.oneCell')=true):=by show _=true;rw[J];exact YL _ _
 have al:=hyd L;obtain⟨y1,y2⟩:=aH.out;have ay:=HA.out;have aK:=D.size;have au:W1.heap.size=A+1:=by rw[Y.out,HA.out];simp
 have C:RC nb base w A B:=⟨by omega,by omega,ay,m.out.lnb,m.out.bw⟩;have S0:RW nb base vh vb vh vb n hs bh F (Rx.rowOf (Rx.copies e le 0)) w W2 A B:=by
  have P:=m.out;have hN:=((P.net.below y1).below D).below o;have h1:=P.net.h.blk;have h2:=P.net.b.blk;refine⟨I2 hN,((NF.of vh vb (by omega) y1).trans (NF.of vh vb (by omega) D)).trans (NF.of vh vb (by omega) o),(y2.block (D.block _ y2.ltB)).block (o.block A (by omega)),?_,λk hk=>Or.inl (by have:=(h1 k hk).2;omega),λk hk=>Or.inl (by have:=(h2 k hk).2;omega)⟩;rw[<-hB]at s;show TC B (bl (YZ Rx.eps n) 193) W2;rw[YU (g:=RM) (λi hi=>Qw n i hi)];exact s
 have H:=hyd C;have HB:=hyd hB;have aM:(mo:Int)<=9:=by omega
 clear s o b3 hB J L y1 y2 ay aK au C Y D;go_wp2_with (first|(with_reducible refine gst 247 ?_;refine Za rfl 247 _ _ rfl w1.heap.size 0 L0.toArray rfl rfl (by simpa[U.out]using az) (by simpa[U.out]using Y4) aj.out ?_;rw[Zc,<-al.out]));rw[<-HB.out,<-HA.out];clear U aj al az
 go_loopw [10] (λx w'=>∃(i:Nat) (vh' vb':Value),x=I6 i/\i<=mo/\RW nb base vh vb vh' vb' n hs bh F (Rx.rowOf (Rx.copies e le i)) w w' A B) (λx _=>mo-(intOf x).toNat)
 ·exact⟨0,vh,vb,rfl,by omega,S0⟩
 clear S0;obtain⟨i,vh',vb',rfl,hi,S⟩:=hrel;by_cases aJ:i<mo
 ·have aL:(i:Int)<mo:=by omega
  obtain⟨E,hE⟩:=nam (Rx.rowOf (Rx.copies e le i));rw[<-hE]at S;have aq:E.sz=i*e.sz:=by rw[hE];exact Rx.copies_sz e le i
  have O:(i+1)*e.sz<=mo*e.sz:=ZQ _ aJ;rw[Nat.add_mul,Nat.one_mul,<-aq]at O;have l:n+E.sz+e.sz<=96:=by have:=Hn.out;omega
  have HE:Hid (Rx.rowOf (Rx.copies e le (i+1))=.cat E (if i<le then e else .opt e)):=by show _=_;rw[Rx.copies_succ,Rx.rowOf_snoc,<-hE]
  clear hE aq O;have P:=m.out;have G:SK nb base vh' vb' (n+E.sz) (Uy hs E n) (Tu bh E n) F ad cap ps wr:=⟨S.net,P.lnb,by have:=S.nf.b.size;have:=P.bw;omega,P.prt.nf P.sep S.nf,P.len,P.lcap,P.sep.nf S.nf⟩;have ai:=HP.out ts e ps ad cap nb base vh' vb' (n+E.sz) (Uy hs E n) (Tu bh E n) F wr Hp Hb G l aG.out;have aC:Hid (Cp 210 #[pT nb,.slice ad ps.length cap] wr (VM nb base vh' vb' (n+E.sz) (Uy hs E n) (Tu bh E n) F e wr)):=ai;clear ai G P;go_wp2_with fail;refine aC.out.mono ?_;rintro en w3 ⟨vh2,vb2,rfl,N3,F3⟩;obtain⟨TA,TB,Z,o1,o2⟩:=S.call H F3;obtain⟨s,o,b3⟩:=UM w3 (YZ e (n+E.sz));have aA:(w3.alloc (.cells (bl (λ_=>false) 193).toArray 247)).there w3.heap.size 0 193:=Yi (TC.boxed w3 _ _);obtain⟨L3,K⟩:=nam (bl (YZ e (n+E.sz)) 193);obtain⟨W4,N⟩:=nam ((w3.alloc (.cells (bl (λ_=>false) 193).toArray 247)).setCells w3.heap.size 0 (bl (YZ e (n+E.sz)) 193));rw[<-N]at s o b3;rw[<-K]at N ⊢;have I:Hid (L3.length=193):=by show _=_;rw[K];exact Y9 _ _
  have ak:Hid (L3.toArray.all (·.oneCell')=true):=by show _=true;rw[K];exact YL _ _
  have am:=hyd N;have Q:=N3.c.lt;have UA:=TA.block (o.block A TA.ltB);have UB:=TB.block (o.block B TB.ltB);have ap:=TB.ltB;have N4:=N3.below o;have F4:=Z.trans (NF.of vh2 vb2 (by omega) o);have aB:=Z.b.size;have af:=N3.h.blk;have ag:=N3.b.blk;have ao:=H.out.g2;obtain⟨c1,aI⟩:=s 0 _ (YO _ (by omega));clear K N TA TB N3 Z S F3;have ah:∀u,Bl w3 W4->W4.grownBy (W4.setCell (a_ w3.heap.size 0) u) (some w3.heap.size):=λu _=>Y8 w3.heap.size [u] 0 W4
  by_cases av:i<le
  ·have aw:¬((le:Int)<=i):=by omega
   rw[if_pos av]at HE;have T:=hyd (RE nb base vh2 vb2 (n+E.sz+e.sz) _ _ F (YZ E n) (YZ e (n+E.sz)) W4 N4 H.out.g7 l);have X:=hyd3 UA UB F4;have rB:=UB.range;have rC:=s.range;have Ho:=hyd2 o1 o2;clear UA UB N4 F4 s o b3 ap aB af ag ao ah o1 o2 Q c1 aI;go_wp2_with (first|(with_reducible refine gst 247 ?_;refine Za rfl 247 _ _ rfl w3.heap.size 0 L3.toArray rfl rfl (by simpa[I.out]using aA) (by simpa[I.out]using Y4) ak.out ?_;rw[Zc,<-am.out])|(with_reducible refine gld 247 ?_;refine Zb rfl 247 _ rfl B 0 rfl (bl (YZ E n) 193) _ rB u_b rfl (by rw[Y9];exact Y4) ?_)|(with_reducible refine gld 247 ?_;refine Zb rfl 247 _ rfl w3.heap.size 0 rfl (bl (YZ e (n+E.sz)) 193) _ rC u_b rfl (by rw[Y9];exact Y4) ?_));refine T.out.mono ?_;rintro en w6 ⟨rfl,N6,F6⟩;obtain⟨t,y,z⟩:=X.out;obtain⟨tB,R⟩:=RW.step (e2:=e) H.out t y z Ho.out.1 Ho.out.2 N6 F6 l;rw[<-HE.out]at R;obtain⟨L6,d⟩:=nam (bl (jn (YZ E n) (YZ e (n+E.sz))) 193);rw[<-d]at R ⊢;have r:Hid (L6.length=193):=by show _=_;rw[d];exact Y9 _ _
   have W:Hid (L6.toArray.all (·.oneCell')=true):=by show _=true;rw[d];exact YL _ _
   clear d N6 F6 t y z rB rC;go_wp2_with (first|(with_reducible refine gst 247 ?_;refine Za rfl 247 _ _ rfl B 0 L6.toArray rfl rfl (by simpa[r.out]using tB) (by simpa[r.out]using Y4) W.out ?_;rw[Zc]));go_roundw
   ·exact⟨i+1,vh2,vb2,by go_num,by omega,R⟩
   simp[intOf];omega
  have aw:(le:Int)<=i:=by omega
  rw[if_neg av]at HE;have b5:=s.set 0 (by rw[Y9];omega) (.bool true);rw[Uz,YU (g:=YZ (.opt e) (n+E.sz)) (λj _=>by
   unfold YZ;by_cases h0:j=0
   ·simp[h0,Rx.nul]
   simp[h0,Rx.fst,Rx.lst])]at b5
  have g5:=ah (.bool true) o;obtain⟨W5,ac⟩:=nam (W4.setCell (a_ w3.heap.size 0) (.bool true));rw[<-ac]at b5 g5;have aE:=hyd ac;have VA:=UA.block (g5.block A UA.ltB (λx=>by have:=Zh x;omega));have VB:=UB.block (g5.block B UB.ltB (λx=>by have:=Zh x;omega));have N5:=N4.mine g5 (by omega) (λx=>by have:=(af _ x).2;omega) (λx=>by have:=(ag _ x).2;omega);have F5:=F4.mine g5 (by omega) (by omega);clear ac g5;have T:=hyd (RE nb base vh2 vb2 (n+E.sz+e.sz) _ _ F (YZ E n) (YZ (.opt e) (n+E.sz)) W5 N5 H.out.g7 l);have X:=hyd3 VA VB F5;have rB:=VB.range;have rC:=b5.range;have Ho:=hyd2 o1 o2;clear UA UB N4 F4 VA VB N5 F5 s o b3 b5 ap aB af ag ao ah o1 o2 Q;go_wp2_with (first|(with_reducible refine gst 247 ?_;refine Za rfl 247 _ _ rfl w3.heap.size 0 L3.toArray rfl rfl (by simpa[I.out]using aA) (by simpa[I.out]using Y4) ak.out ?_;rw[Zc,<-am.out])|(with_reducible refine gld 247 ?_;rw[<-aE.out];refine Zb rfl 247 _ rfl B 0 rfl (bl (YZ E n) 193) _ rB u_b rfl (by rw[Y9];exact Y4) ?_)|(with_reducible refine gld 247 ?_;refine Zb rfl 247 _ rfl w3.heap.size 0 rfl (bl (YZ (.opt e) (n+E.sz)) 193) _ rC u_b rfl (by rw[Y9];exact Y4) ?_));refine T.out.mono ?_;rintro en w6 ⟨rfl,N6,F6⟩;obtain⟨t,y,z⟩:=X.out;obtain⟨tB,R⟩:=RW.step (e2:=.opt e) H.out t y z Ho.out.1 Ho.out.2 N6 F6 l;rw[<-HE.out]at R;obtain⟨L6,d⟩:=nam (bl (jn (YZ E n) (YZ (.opt e) (n+E.sz))) 193);rw[<-d]at R ⊢;have r:Hid (L6.length=193):=by show _=_;rw[d];exact Y9 _ _
  have W:Hid (L6.toArray.all (·.oneCell')=true):=by show _=true;rw[d];exact YL _ _
  clear d N6 F6 t y z rB rC;go_wp2_with (first|(with_reducible refine gst 247 ?_;refine Za rfl 247 _ _ rfl B 0 L6.toArray rfl rfl (by simpa[r.out]using tB) (by simpa[r.out]using Y4) W.out ?_;rw[Zc]));go_roundw
  ·exact⟨i+1,vh2,vb2,by go_num,by omega,R⟩
  simp[intOf];omega
 have⟨hge,him⟩:¬(i:Int)<mo/\i=mo:=by omega
 subst him;have ax:=S.b.range;have tA:=Yi S.a;obtain⟨M,hM⟩:=nam (bl (YZ (Rx.rowOf (Rx.copies e le i)) n) 193);rw[<-hM]at ax;have ar:M.length=193:=by rw[hM];exact Y9 _ _
 have aa:=Y8 A M 0 wr;have q:=Ox S.a (YZ (Rx.rowOf (Rx.copies e le i)) n);rw[<-hM]at q;have a1:=H.out.g1;have a2:=H.out.g2;have a4:=H.out.g4;have NX:=S.net.mine aa (by omega) (λx=>by have:=S.o1 A x;omega) (λx=>by have:=S.o2 A x;omega);have FX:=S.nf.mine aa (by omega) (by omega);obtain⟨WX,ae⟩:=nam (wr.setCells A 0 M);rw[<-ae]at q NX FX;have aF:=hyd ae;have an:=hyd q;have V:=hyd ar;have aD:Hid (M.toArray.all (·.oneCell')=true):=by show _=true;rw[hM];exact YL _ _
 have HM:=hyd hM;clear hM ar aa q ae a1 a2 a4 S;go_wp2_with (first|(with_reducible refine gld 247 ?_;refine Zb rfl 247 _ rfl B 0 rfl M _ ax u_b rfl (by rw[V.out];exact Y4) ?_)|(with_reducible refine gst 247 ?_;refine Za rfl 247 _ _ rfl A 0 M.toArray rfl rfl (by simpa[V.out]using tA) (by simpa[V.out]using Y4) aD.out ?_;rw[Zc,<-aF.out]));refine Zr (v:=.agg M.toArray) (res_load1 Tryz.results220 rfl an.out) rfl ?_;exact⟨vh',vb',by rw[HM.out],NX,FX⟩
def Cn:Value->Nat
 |.slice _ n _=>n
 |_=>0
variable {ts:List Tq}
theorem RK {f:Nat} (h:Pp f 0 ts e):∃q r,ts=q::r/\(q.t.kd=1\/q.t.kd=2):=by
 obtain⟨_,F,a,_,_⟩:=SJ f 0 ts e h;exact(a rfl).2
theorem Fu {f:Nat}{L:List (List Tq × Rx)} (h:∀x∈L,Pp f 0 x.1 x.2):∀k r,kds (L.map (·.1)).flatten=k::r->Pg.isSuffix k=false:=by
 intro k r a;rcases L with _|⟨x,L⟩
 ·simp[kds]at a
 obtain⟨q,c,b,e2⟩:=RK (h x (by simp));rw[List.map_cons,List.flatten_cons,U6,b]at a;simp[kds]at a;rw[<-a.1];rcases e2 with e2|e2<;>(rw[e2];rfl)
theorem CZ (f:Nat) (hP:Qc 210 0 f) (L:List (List Tq × Rx)) (ps:List Pt) (ad:Option Addr) (cap nb base:Nat) (vh vb:Value) (n:Nat) (hs bh:Nat->N_) (F:N_) (w:World) (hL:∀x∈L,Pp f 0 x.1 x.2) (hb:XU Sm ps (L.map (·.1)).flatten) (a0:SK nb base vh vb n hs bh F ad cap ps w) (hn:n+(Rx.rowOf (L.map (·.2))).sz<=96) (a3:∀p∈ps,0<=p.mo/\p.mo<=9):
  Cp 199 #[pT nb,.slice ad ps.length cap] w (VM nb base vh vb n hs bh F (Rx.rowOf (L.map (·.2))) w):=by
 have hz:=Wo;have aY:=a0.net.c.lt;obtain⟨A,hA⟩:=nam w.heap.size;obtain⟨W1,ah⟩:=nam (w.alloc (.cells (bl (λ_=>false) 193).toArray 247));have T1:=TC.boxed w (bl (λ_=>false) 193) 247;have x1:=box_bel w (.cells (bl (λ_=>false) 193).toArray 247);rw[<-ah]at T1 x1;rw[<-hA]at T1;have HA:=hyd hA;have ac:=hyd ah;have HP:=hyd hP;have Hb:=hyd hb;have m:=hyd a0;have D:=hyd a3;have aR:=hyd2 x1 T1;have Hn:=hyd hn;have HL:=hyd hL;clear hP hL hb a0 a3 hA ah T1 x1 hn;go_enter Tryz.func199,Tryz.ntmps199;go_wp2_with fail;rw[<-ac.out];refine Calls.mono (Te W1) ?_;rintro en w1 ⟨rfl,s⟩;obtain⟨X,z,b3⟩:=UM w1 RM;have aI:(w1.alloc (.cells (bl (λ_=>false) 193).toArray 247)).there w1.heap.size 0 193:=Yi (TC.boxed w1 _ _);obtain⟨B,hB⟩:=nam w1.heap.size;obtain⟨L0,J⟩:=nam (bl RM 193);obtain⟨W2,O⟩:=nam ((w1.alloc (.cells (bl (λ_=>false) 193).toArray 247)).setCells w1.heap.size 0 (bl RM 193));rw[<-O]at X z b3;rw[<-J]at O ⊢;have aa:Hid (L0.length=193):=by show _=_;rw[J];exact Y9 _ _
 have ao:Hid (L0.toArray.all (·.oneCell')=true):=by show _=true;rw[J];exact YL _ _
 have ap:=hyd O;obtain⟨y1,y2⟩:=aR.out;have aH:=HA.out;have aV:=y1.size;have aW:=s.size;have aA:W1.heap.size=A+1:=by rw[ac.out,HA.out];simp
 have C:RC nb base w A B:=⟨by omega,by omega,aH,m.out.lnb,m.out.bw⟩;have S0:RW nb base vh vb vh vb n hs bh F (Rx.rowOf (([]:List (List Tq × Rx)).map (·.2))) w W2 A B:=by
  have P:=m.out;have hN:=((P.net.below y1).below s).below z;have h1:=P.net.h.blk;have h2:=P.net.b.blk;refine⟨I2 hN,((NF.of vh vb (by omega) y1).trans (NF.of vh vb (by omega) s)).trans (NF.of vh vb (by omega) z),(y2.block (s.block _ y2.ltB)).block (z.block A (by omega)),?_,λk hk=>Or.inl (by have:=(h1 k hk).2;omega),λk hk=>Or.inl (by have:=(h2 k hk).2;omega)⟩;rw[<-hB]at X;show TC B (bl (YZ Rx.eps n) 193) W2;rw[YU (g:=RM) (λi hi=>Qw n i hi)];exact X
 have HC:=hyd C;have HB:=hyd hB;clear X z b3 hB J O y1 y2 aH aV aW aA C ac s;go_wp2_with (first|(with_reducible refine gst 247 ?_;refine Za rfl 247 _ _ rfl w1.heap.size 0 L0.toArray rfl rfl (by simpa[aa.out]using aI) (by simpa[aa.out]using Y4) ao.out ?_;rw[Zc,<-ap.out]));rw[<-HB.out,<-HA.out];clear aa ao ap aI
 (try simp only[Act.put])
 go_loopw [1] (λx w'=>∃(V I:List (List Tq × Rx)) (o:Option Addr) (d:Nat) (j:List Pt) (vh' vb':Value),x=.slice o j.length d/\Hid (L=V++I)/\Hid (XU Sm j (I.map (·.1)).flatten)/\Hid (SK nb base vh vb n hs bh F o d j w)/\Hid (∀p∈j,0<=p.mo/\p.mo<=9)/\RW nb base vh vb vh' vb' n hs bh F (Rx.rowOf (V.map (·.2))) w w' A B) (λx _=>Cn x)
 ·exact⟨[],L,ad,cap,ps,vh,vb,rfl,rfl,Hb,m,D,S0⟩
 clear S0 Hb m D;obtain⟨V,I,o,d,j,vh',vb',rfl,y,Hb,m,D,S⟩:=hrel;rcases I with _|⟨⟨l,t⟩,I⟩
 ·have aT:j.length=0:=by have:=Hb.out.len;simpa using this
  have aS:L=V:=by have:=y.out;simpa using this
  subst aS;have hq:¬((0:Int)<(j.length:Int)):=by omega
  have aG:=S.b.range;have tA:=Yi S.a;obtain⟨M,hM⟩:=nam (bl (YZ (Rx.rowOf (L.map (·.2))) n) 193);rw[<-hM]at aG;have az:M.length=193:=by rw[hM];exact Y9 _ _
  have ag:=Y8 A M 0 wr;have u:=Ox S.a (YZ (Rx.rowOf (L.map (·.2))) n);rw[<-hM]at u;have a1:=HC.out.g1;have a2:=HC.out.g2;have a4:=HC.out.g4;have NX:=S.net.mine ag (by omega) (λx=>by have:=S.o1 A x;omega) (λx=>by have:=S.o2 A x;omega);have FX:=S.nf.mine ag (by omega) (by omega);obtain⟨WX,ai⟩:=nam (wr.setCells A 0 M);rw[<-ai]at u NX FX;have aP:=hyd ai;have aq:=hyd u;have ab:=hyd az;have aM:Hid (M.toArray.all (·.oneCell')=true):=by show _=true;rw[hM];exact YL _ _
  have HM:=hyd hM;clear hM az ag u ai a1 a2 a4 S aT;go_wp2_with (first|(with_reducible refine gld 247 ?_;refine Zb rfl 247 _ rfl B 0 rfl M _ aG u_b rfl (by rw[ab.out];exact Y4) ?_)|(with_reducible refine gst 247 ?_;refine Za rfl 247 _ _ rfl A 0 M.toArray rfl rfl (by simpa[ab.out]using tA) (by simpa[ab.out]using Y4) aM.out ?_;rw[Zc,<-aP.out]));refine Zr (v:=.agg M.toArray) (res_load1 Tryz.results199 rfl aq.out) rfl ?_;exact⟨vh',vb',by rw[HM.out],NX,FX⟩
 have Z:∀x∈I,Pp f 0 x.1 x.2:=λx hx=>HL.out x (by rw[y.out];simp[hx])
 have U:Pp f 0 l t:=HL.out (l,t) (by rw[y.out];simp);have T:XU Sm j (l++(I.map (·.1)).flatten):=Hb.out;obtain⟨aB,aC⟩:=XU.split _ _ _ T;have Y:=T.len;rw[Zl]at Y;have aX:0<l.length:=by obtain⟨q,r,e,_⟩:=RK U;rw[e];simp
 have aE:Oj j=l.length:=Jd U (by rw[T.kds,U6]) (Fu Z);have P:=m.out;have hq:(0:Int)<(j.length:Int):=by omega
 have au:Hid (Cp 209 #[.slice o j.length d] wr λe w'=>e=.returned (I6 (l.length:Nat))/\Bl wr w'):=by
  have:=LD o d j wr P.len (P.prt.nf P.sep S.nf);rw[aE]at this;exact this
 obtain⟨E,hE⟩:=nam (Rx.rowOf (V.map (·.2)));rw[<-hE]at S;have HE:Hid (Rx.rowOf ((V++[(l,t)]).map (·.2))=.cat E t):=by show _=_;rw[List.map_append,hE];exact Rx.rowOf_snoc _ _
 have H:n+E.sz+t.sz<=96:=by
  have h1:=Hn.out;rw[y.out,Rx.rowOf_sz]at h1;rw[hE,Rx.rowOf_sz];simp at h1 ⊢;omega
 have G:=P.lcap;have aZ:=P.len;have an:Hid (∀W,NF nb vh vb vh' vb' w W->YH nb base vh' vb' (n+E.sz) (Uy hs E n) (Tu bh E n) F W->Cp 210 #[pT nb,.slice (PA o d 0) (l.length-0) (d-0)] W (VM nb base vh' vb' (n+E.sz) (Uy hs E n) (Tu bh E n) F t W)):=λW hf hN=>by
  have h1:(j.take l.length).length=l.length-0:=by rw[List.length_take];omega
  have h2:=P.prt.nf P.sep hf;have h3:=h2.sub (cap:=d) 0 l.length (by omega) G;rw[Zw]at h3;have:=HP.out l t (j.take l.length) (PA o d 0) (d-0) nb base vh' vb' (n+E.sz) (Uy hs E n) (Tu bh E n) F W U aB ⟨hN,P.lnb,by have:=hf.b.size;have:=P.bw;omega,h3,by omega,by omega,(P.sep.nf hf).sub _ _⟩ H (λp hp=>D.out p (List.mem_of_mem_take hp));rw[h1]at this;exact this
 have af:Hid (SK nb base vh vb n hs bh F (PA o d l.length) (d-l.length) (j.drop l.length) w):=by
  have h3:=P.prt.sub (cap:=d) l.length (j.length-l.length) (by omega) G;rw[List.take_of_length_le (by rw[List.length_drop];omega)]at h3;exact⟨P.net,P.lnb,P.bw,h3,by rw[List.length_drop];omega,by rw[List.length_drop];omega,P.sep.sub _ _⟩
 have aQ:=hyd aC;have am:Hid (L=(V++[(l,t)])++I):=by show _=_;rw[y.out];simp
 have ar:Hid (∀p∈j.drop l.length,0<=p.mo/\p.mo<=9):=λp hp=>D.out p (List.mem_of_mem_drop hp)
 have ae:Hid ((j.drop l.length).length=j.length-l.length):=by show _=_;rw[List.length_drop]
 have aF:l.length<=j.length:=by omega
 clear hE Z U T aB aC Y aE P Hb m y;go_wp2_with fail;refine au.out.mono ?_;rintro en w1 ⟨rfl,s⟩;have S1:RW nb base vh vb vh' vb' n hs bh F E w w1 A B:=⟨S.net.below s,S.nf.trans (NF.of _ _ (by have:=S.net.c.lt;omega) s),S.a.block (s.block _ S.a.ltB),S.b.block (s.block _ S.b.ltB),S.o1,S.o2⟩;have aj:=hyd (an w1 S1.nf S1.net);clear an au S s;go_wp2_with (first|(with_reducible show wpList _ _ _ (⟨_,Op.slice 194 _ _ _ _,_,_,_,_⟩::_) _ _;refine V5 rfl _ _ _ rfl o j.length d rfl 0 l.length (Or.inl ⟨rfl,rfl⟩) (Or.inr ⟨_,rfl,rfl⟩) (by omega) (by omega) ?_));refine aj.out.mono ?_;rintro en w3 ⟨vh2,vb2,rfl,N3,F3⟩;obtain⟨TA,TB,av,o1,o2⟩:=S1.call HC F3;obtain⟨X,z,b3⟩:=UM w3 (YZ t (n+E.sz));have aU:(w3.alloc (.cells (bl (λ_=>false) 193).toArray 247)).there w3.heap.size 0 193:=Yi (TC.boxed w3 _ _);obtain⟨L3,K⟩:=nam (bl (YZ t (n+E.sz)) 193);obtain⟨W4,Q⟩:=nam ((w3.alloc (.cells (bl (λ_=>false) 193).toArray 247)).setCells w3.heap.size 0 (bl (YZ t (n+E.sz)) 193));rw[<-Q]at X z b3;rw[<-K]at Q ⊢;have ak:Hid (L3.length=193):=by show _=_;rw[K];exact Y9 _ _
 have aK:Hid (L3.toArray.all (·.oneCell')=true):=by show _=true;rw[K];exact YL _ _
 have aO:=hyd Q;have aD:=N3.c.lt;have UA:=TA.block (z.block A TA.ltB);have UB:=TB.block (z.block B TB.ltB);have N4:=N3.below z;have F4:=av.trans (NF.of vh2 vb2 (by omega) z);have aJ:=hyd (RE nb base vh2 vb2 (n+E.sz+t.sz) _ _ F (YZ E n) (YZ t (n+E.sz)) W4 N4 HC.out.g7 H);have aN:=hyd3 UA UB F4;have rB:=UB.range;have rC:=X.range;have Ho:=hyd2 o1 o2;clear UA UB N4 F4 X z b3 o1 o2 aD K Q TA TB N3 av S1 F3 aj;go_wp2_with (first|(with_reducible refine gst 247 ?_;refine Za rfl 247 _ _ rfl w3.heap.size 0 L3.toArray rfl rfl (by simpa[ak.out]using aU) (by simpa[ak.out]using Y4) aK.out ?_;rw[Zc,<-aO.out])|(with_reducible refine gld 247 ?_;refine Zb rfl 247 _ rfl B 0 rfl (bl (YZ E n) 193) _ rB u_b rfl (by rw[Y9];exact Y4) ?_)|(with_reducible refine gld 247 ?_;refine Zb rfl 247 _ rfl w3.heap.size 0 rfl (bl (YZ t (n+E.sz)) 193) _ rC u_b rfl (by rw[Y9];exact Y4) ?_));refine aJ.out.mono ?_;rintro en w6 ⟨rfl,N6,F6⟩;obtain⟨aw,ax,ay⟩:=aN.out;obtain⟨tB,R⟩:=RW.step (e2:=t) HC.out aw ax ay Ho.out.1 Ho.out.2 N6 F6 H;rw[<-HE.out]at R;obtain⟨L6,N⟩:=nam (bl (jn (YZ E n) (YZ t (n+E.sz))) 193);rw[<-N]at R ⊢;have al:Hid (L6.length=193):=by show _=_;rw[N];exact Y9 _ _
 have aL:Hid (L6.toArray.all (·.oneCell')=true):=by show _=true;rw[N];exact YL _ _
 clear N N6 F6 aw ax ay rB rC;go_wp2_with (first|(with_reducible refine gst 247 ?_;refine Za rfl 247 _ _ rfl B 0 L6.toArray rfl rfl (by simpa[al.out]using tB) (by simpa[al.out]using Y4) aL.out ?_;rw[Zc])|(with_reducible show wpList _ _ _ (⟨_,Op.slice 194 _ _ _ _,_,_,_,_⟩::_) _ _;refine V5 rfl _ _ _ rfl o j.length d rfl l.length j.length (Or.inr ⟨_,rfl,rfl⟩) (Or.inl ⟨rfl,rfl⟩) aF G ?_));go_roundw
 ·exact⟨V++[(l,t)],I,PA o d l.length,d-l.length,j.drop l.length,vh2,vb2,by rw[ae.out],am,aQ,af,ar,R⟩
 simp[Cn];omega
structure RA (nb base:Nat) (vh vb vh' vb':Value) (m:Nat) (hs bh:Nat->Nat->Bool) (F:Nat->Bool) (w w':World) (A:Nat):Prop where
 net:YH nb base vh' vb' m hs bh F w'
 nf:NF nb vh vb vh' vb' w w'
 a:TC A (bl (fun _=>false) 193) w'
 o1:∀k,vh'.ownBlock=some k->k<A\/A<k
 o2:∀k,vb'.ownBlock=some k->k<A\/A<k
theorem RA.below {A:Nat} (h:RA nb base vh vb vh' vb' m hs bh F w w' A) (y:Bl w' w''):RA nb base vh vb vh' vb' m hs bh F w w'' A:=
 ⟨h.net.below y,h.nf.trans (NF.of _ _ (by have:=h.net.c.lt;omega) y),h.a.block (y.block _ h.a.ltB),h.o1,h.o2⟩
theorem RA.call {A:Nat} (h:RA nb base vh vb vh' vb' m hs bh F w w' A) (H:nb<A) (z:YH nb base vh2 vb2 m2 hs2 bh2 F w'') (y:NF nb vh' vb' vh2 vb2 w' w''):RA nb base vh vb vh2 vb2 m2 hs2 bh2 F w w'' A:=by
 have ha:=h.a.ltB;refine⟨z,h.nf.trans y,h.a.block (y.k A ha (by omega) (λe=>by have:=h.o1 A e;omega) (λe=>by have:=h.o2 A e;omega)),λk b=>?_,λk b=>?_⟩
 ·rcases y.oh k b with e|e
  ·exact h.o1 k e
  exact Or.inr (by omega)
 rcases y.ob k b with e|e
 ·exact h.o2 k e
 exact Or.inr (by omega)
theorem RA.done {A:Nat} (h:RA nb base vh vb vh' vb' m hs bh F w w' A) (H:nb<A) (z:w.heap.size<=A) (y:nb<w.heap.size) (f:N_):
  (loadVar 247 (a_ A 0)).run Tryz.prog (w'.setCells A 0 (bl f 193))=.ok (.agg (bl f 193).toArray) (w'.setCells A 0 (bl f 193))/\YH nb base vh' vb' m hs bh F (w'.setCells A 0 (bl f 193))/\NF nb vh vb vh' vb' w (w'.setCells A 0 (bl f 193))/\w'.there A 0 193:=by
 have b:=Y8 A (bl f 193) 0 w';exact⟨Ox h.a f,h.net.mine b (by omega) (λe=>by have:=h.o1 A e;omega) (λe=>by have:=h.o2 A e;omega),h.nf.mine b z y,Yi h.a⟩
theorem FJ (f:Nat) (hR:Qc 199 1 f) (hW:Qc 173 2 f):Qc 173 2 (f+1):=by
 intro ts e ps ad cap nb base vh vb n hs bh F w hp hb a hn aa;have hz:=Wo;have aw:=a.net.c.lt;obtain⟨A,hA⟩:=nam w.heap.size;obtain⟨W1,Y⟩:=nam (w.alloc (.cells (bl (λ_=>false) 193).toArray 247));have T1:=TC.boxed w (bl (λ_=>false) 193) 247;have x1:=box_bel w (.cells (bl (λ_=>false) 193).toArray 247);rw[<-Y]at T1 x1;rw[<-hA]at T1;have R1:RA nb base vh vb vh vb n hs bh F w W1 A:=by
  have h1:=a.net.h.blk;have h2:=a.net.b.blk;exact⟨a.net.below x1,NF.of vh vb (by omega) x1,T1,λk Z=>Or.inl (by have:=(h1 k Z).2;omega),λk Z=>Or.inl (by have:=(h2 k Z).2;omega)⟩
 obtain⟨r,rest,d,hr,l,az⟩:∃(r rest:List Tq) (d:Rx),Pp f 1 r d/\((rest=[]/\e=d)\/∃b q e2,rest=b::q/\b.t.kd=4/\Pp f 2 q e2/\e=.alt d e2)/\ts=r++rest:=by
  rcases hp with h|⟨r,b,q,d,e2,k1,_,k3,k4,k5,k6⟩
  ·exact⟨ts,[],e,h,Or.inl ⟨rfl,rfl⟩,by simp⟩
  exact⟨r,b::q,d,k4,Or.inr ⟨b,q,e2,rfl,k3,k5,k6⟩,k1⟩
 rw[az]at hb;obtain⟨ar,s⟩:=XU.split _ _ _ hb;have G:=hb.len;rw[Zl]at G;have ax:Rh ps 0 0=r.length:=Ft hr (by rw[hb.kds,U6]) (by
  rcases l with ⟨h,_⟩|⟨b,q,_,h,h4,_⟩
  ·exact Or.inl (by rw[h];rfl)
  exact Or.inr ⟨kds q,by rw[h];simp[kds,h4]⟩)
 have H:d.sz<=e.sz:=by
  rcases l with ⟨_,h⟩|⟨_,_,e2,_,_,_,h⟩
  ·rw[h];exact Zg _
  rw[h];simp[Rx.sz]
 have E:=a.lcap;have aO:=a.len;have aj:Hid (Cp 198 #[.slice ad ps.length cap] W1 λen w'=>en=.returned (I6 (r.length:Nat))/\Bl W1 w'):=by
  have:=Jj ad cap ps W1 aO (a.prt.below x1);rw[ax]at this;exact this
 have O:Hid (∀W,NF nb vh vb vh vb w W->YH nb base vh vb n hs bh F W->Cp 199 #[pT nb,.slice (PA ad cap 0) (r.length-0) (cap-0)] W (VM nb base vh vb n hs bh F d W)):=λW hf hN=>by
  have h1:(ps.take r.length).length=r.length-0:=by rw[List.length_take];omega
  have h3:=(a.prt.nf a.sep hf).sub (cap:=cap) 0 r.length (by omega) E;rw[Zw]at h3;have:=hR r d (ps.take r.length) (PA ad cap 0) (cap-0) nb base vh vb n hs bh F W hr ar ⟨hN,a.lnb,by have:=hf.b.size;have:=a.bw;omega,h3,by omega,by omega,(a.sep.nf hf).sub _ _⟩ (by omega) (λp hp=>aa p (List.mem_of_mem_take hp));rw[h1]at this;exact this
 have HA:=hyd hA;have ak:=hyd Y;have ah:=hyd R1;have ao:=hyd a;have U:=hyd l;have aJ:=hyd s;have aK:=hyd aa;have aI:=hyd hW;have Hn:=hyd hn;have Q:=hyd G;have aS:r.length<=ps.length:=by omega
 have N:nb<A:=by omega
 clear hR hW hp hb a hn aa hA Y T1 x1 R1 hr l az ar s G ax H;go_enter Tryz.func173,Tryz.ntmps173;go_wp2_with fail;rw[<-ak.out];refine aj.out.mono ?_;rintro en w1 ⟨rfl,ap⟩;have R2:=ah.out.below ap;have aE:=hyd (O.out w1 R2.nf R2.net);rw[<-HA.out];clear aj O ah ak ap;go_wp2_with (first|(with_reducible show wpList _ _ _ (⟨_,Op.slice 194 _ _ _ _,_,_,_,_⟩::_) _ _;refine V5 rfl _ _ _ rfl ad ps.length cap rfl 0 r.length (Or.inl ⟨rfl,rfl⟩) (Or.inr ⟨_,rfl,rfl⟩) (by omega) (by omega) ?_));refine aE.out.mono ?_;rintro en w3 ⟨vh2,vb2,rfl,N3,F3⟩;have R3:=R2.call N N3 F3;obtain⟨C,I,V⟩:=UM w3 (YZ d n);have ay:(w3.alloc (.cells (bl (λ_=>false) 193).toArray 247)).there w3.heap.size 0 193:=Yi (TC.boxed w3 _ _);obtain⟨L3,m⟩:=nam (bl (YZ d n) 193);obtain⟨W4,D⟩:=nam ((w3.alloc (.cells (bl (λ_=>false) 193).toArray 247)).setCells w3.heap.size 0 (bl (YZ d n) 193));rw[<-D]at C I V;rw[<-m]at D ⊢;have j:Hid (L3.length=193):=by show _=_;rw[m];exact Y9 _ _
 have z:Hid (L3.toArray.all (·.oneCell')=true):=by show _=true;rw[m];exact YL _ _
 have al:=hyd D;have ae:=hyd m;have R:=R3.below I;rw[<-m]at C;have rB:=C.range;have K:=HA.out;rcases U with ⟨h0,he⟩|⟨b,q,e2,h0,aQ,hq,he⟩
 ·subst he;have ab:ps.length=r.length:=by have:=Q.out;rw[h0]at this;simpa using this
  have aN:(ps.length:Int)<=(r.length:Int):=by omega
  obtain⟨J,S,X,d4⟩:=R.done N (by omega) aw (YZ e n);rw[<-m]at J S X;obtain⟨WX,o⟩:=nam (W4.setCells A 0 L3);rw[<-o]at J S X;have T:=hyd o;have B:=hyd J;clear m D C I V R2 R3 R K o J N3 F3 h0 ab;go_wp2_with (first|(with_reducible refine gst 247 ?_;refine Za rfl 247 _ _ rfl w3.heap.size 0 L3.toArray rfl rfl (by simpa[j.out]using ay) (by simpa[j.out]using Y4) z.out ?_;rw[Zc,<-al.out])|(with_reducible refine gld 247 ?_;refine Zb rfl 247 _ rfl w3.heap.size 0 rfl L3 _ rB u_b rfl (by rw[j.out];exact Y4) ?_)|(with_reducible refine gst 247 ?_;refine Za rfl 247 _ _ rfl A 0 L3.toArray rfl rfl (by simpa[j.out]using d4) (by simpa[j.out]using Y4) z.out ?_;rw[Zc,<-T.out]));refine Zr (v:=.agg L3.toArray) (res_load1 Tryz.results173 rfl B.out) rfl ?_;exact⟨vh2,vb2,by rw[ae.out],S,X⟩
 have ab:ps.length=r.length+(q.length+1):=by have:=Q.out;rw[h0]at this;simpa using this
 have aN:¬((ps.length:Int)<=(r.length:Int)):=by omega
 have s:=aJ.out;rw[h0]at s;have au:XU Sm (ps.drop (r.length+1)) q:=by
  generalize hd:ps.drop r.length=dd at s;cases s with
  |cons h t=>
   rw[<-List.drop_drop,hd];exact t
 have P:=ao.out;have H:e.sz=d.sz+e2.sz:=by rw[he];rfl
 have av:n+d.sz+e2.sz<=96:=by have:=Hn.out;omega
 have ac:Hid (Cp 173 #[pT nb,.slice (PA ad cap (r.length+1)) (ps.length-(r.length+1)) (cap-(r.length+1))] W4 (VM nb base vh2 vb2 (n+d.sz) (Uy hs d n) (Tu bh d n) F e2 W4)):=by
  have h1:(ps.drop (r.length+1)).length=ps.length-(r.length+1):=by rw[List.length_drop]
  have h3:=(P.prt.nf P.sep R.nf).sub (cap:=cap) (r.length+1) (ps.length-(r.length+1)) (by omega) E;rw[List.take_of_length_le (by rw[List.length_drop];omega)]at h3;have:=aI.out q e2 (ps.drop (r.length+1)) (PA ad cap (r.length+1)) (cap-(r.length+1)) nb base vh2 vb2 (n+d.sz) (Uy hs d n) (Tu bh d n) F W4 hq au ⟨R.net,P.lnb,by have:=R.nf.b.size;have:=P.bw;omega,h3,by omega,by omega,(P.sep.nf R.nf).sub _ _⟩ av (λp hp=>aK.out p (List.mem_of_mem_drop hp));rw[h1]at this;exact this
 have ai:=hyd R;have am:=hyd2 C V;have an:Hid ((∀k,vh2.ownBlock=some k->k<w3.heap.size)/\(∀k,vb2.ownBlock=some k->k<w3.heap.size)/\nb<w3.heap.size):=⟨λk Z=>(N3.h.blk k Z).2,λk Z=>(N3.b.blk k Z).2,N3.c.lt⟩;have He:=hyd he;have aR:(r.length:Int)+1<=100:=by omega
 have aM:r.length+1<=ps.length:=by omega
 clear D C I V R2 R3 R K N3 F3 h0 s au P H he hq rB m ab;go_wp2_with (first|(with_reducible refine gst 247 ?_;refine Za rfl 247 _ _ rfl w3.heap.size 0 L3.toArray rfl rfl (by simpa[j.out]using ay) (by simpa[j.out]using Y4) z.out ?_;rw[Zc,<-al.out])|(with_reducible show wpList _ _ _ (⟨_,Op.slice 194 _ _ _ _,_,_,_,_⟩::_) _ _;refine X9.out ?_)
  )
 refine⟨?_⟩
 (try simp only[psm])
 refine V5 rfl _ _ _ rfl ad ps.length cap rfl (r.length+1) ps.length (Or.inr ⟨_,rfl,(by show Value.int .i64 ((r.length:Int)+1)=Value.int .i64 ((r.length+1:Nat):Int);simp)⟩) (Or.inl ⟨rfl,rfl⟩) aM E ?_;go_wp2_with fail;refine ac.out.mono ?_;rintro en w5 ⟨aC,aB,rfl,N5,F5⟩;have R5:=ai.out.call N N5 F5;obtain⟨c1,c2⟩:=am.out;obtain⟨q1,q2,q3⟩:=an.out;have tB:=c1.block (F5.k w3.heap.size (by omega) (by omega) (λx=>by have:=q1 _ x;omega) (λx=>by have:=q2 _ x;omega));have aL:=F5.b.size;obtain⟨C,I,V⟩:=UM w5 (YZ e2 (n+d.sz));have aP:(w5.alloc (.cells (bl (λ_=>false) 193).toArray 247)).there w5.heap.size 0 193:=Yi (TC.boxed w5 _ _);obtain⟨L5,u⟩:=nam (bl (YZ e2 (n+d.sz)) 193);obtain⟨W6,L⟩:=nam ((w5.alloc (.cells (bl (λ_=>false) 193).toArray 247)).setCells w5.heap.size 0 (bl (YZ e2 (n+d.sz)) 193));rw[<-L]at C I V;rw[<-u]at L ⊢;have y:Hid (L5.length=193):=by show _=_;rw[u];exact Y9 _ _
 have ag:Hid (L5.toArray.all (·.oneCell')=true):=by show _=true;rw[u];exact YL _ _
 have aH:=hyd L;have R6:=R5.below I;have aA:=tB.block (I.block w3.heap.size (by omega));rw[<-u]at C;have rB:=aA.range;have rC:=C.range;have aD:Hid (Cp 200 #[.agg L3.toArray,.agg L5.toArray] W6 λen w'=>en=.returned (.agg (bl (YZ e n) 193).toArray)/\Bl W6 w'):=by
  have:=IR (YZ d n) (YZ e2 (n+d.sz)) W6;rw[<-ae.out,<-u,YU (g:=YZ e n) (λi _=>by rw[He.out];exact GY d e2 n i)]at this;exact this
 have aG:=hyd R6;clear u L C I V R5 R6 tB aA N5 F5 c1 c2 q1 q2 q3 aL ai ac an am;go_wp2_with (first|(with_reducible refine gst 247 ?_;refine Za rfl 247 _ _ rfl w5.heap.size 0 L5.toArray rfl rfl (by simpa[y.out]using aP) (by simpa[y.out]using Y4) ag.out ?_;rw[Zc,<-aH.out])|(with_reducible refine gld 247 ?_;refine Zb rfl 247 _ rfl w3.heap.size 0 rfl L3 _ rB u_b rfl (by rw[j.out];exact Y4) ?_)|(with_reducible refine gld 247 ?_;refine Zb rfl 247 _ rfl w5.heap.size 0 rfl L5 _ rC u_b rfl (by rw[y.out];exact Y4) ?_));refine aD.out.mono ?_;rintro en w7 ⟨rfl,aq⟩;have R7:=aG.out.below aq;have K:=HA.out;obtain⟨J,S,X,d4⟩:=R7.done N (by omega) aw (YZ e n);obtain⟨M,hM⟩:=nam (bl (YZ e n) 193);rw[<-hM]at J S X ⊢;obtain⟨WX,o⟩:=nam (w7.setCells A 0 M);rw[<-o]at J S X;have T:=hyd o;have B:=hyd J;have af:Hid (M.length=193):=by show _=_;rw[hM];exact Y9 _ _
 have aF:Hid (M.toArray.all (·.oneCell')=true):=by show _=true;rw[hM];exact YL _ _
 have HM:=hyd hM;have NX:YH nb base aC aB (n+e.sz) (Uy hs e n) (Tu bh e n) F WX:=by
  have H:(Rx.alt d e2).sz=d.sz+e2.sz:=rfl;rw[He.out,H,<-ZN];exact S.congr (λp q _ _=>DF hs d e2 n p q) (λp q _ _=>Dq bh d e2 n p q)
 clear hM o J S R7 K rB rC aq;go_wp2_with (first|(with_reducible refine gst 247 ?_;refine Za rfl 247 _ _ rfl A 0 M.toArray rfl rfl (by simpa[af.out]using d4) (by simpa[af.out]using Y4) aF.out ?_;rw[Zc,<-T.out]));refine Zr (v:=.agg M.toArray) (res_load1 Tryz.results173 rfl B.out) rfl ?_;exact⟨aC,aB,by rw[HM.out],NX,X⟩
theorem YF.tc (h:YF g kd pl f le mo fa w):TC g (YX kd pl f le mo fa) w:=λk v a=>by
 have b:k<261:=by have:=(Zi.1 a).1;rw[Ya]at this;exact this
 have h1:=h.at_ k v a;rw[Zn]at h1;exact⟨h1,h.fr k b⟩
structure RD (nb base:Nat) (vh vb vh' vb':Value) (m:Nat) (hs bh:Nat->Nat->Bool) (F:Nat->Bool) (L:List Value) (w w':World) (A D:Nat):Prop where
 net:YH nb base vh' vb' m hs bh F w'
 nf:NF nb vh vb vh' vb' w w'
 a:TC A (bl (fun _=>false) 193) w'
 d:TC D L w'
 dl:D<w'.heap.size
 o1:∀k,vh'.ownBlock=some k->k<A\/D<k
 o2:∀k,vb'.ownBlock=some k->k<A\/D<k
theorem RD.ra {A:Nat} (h:RD nb base vh vb vh' vb' m hs bh F L w w' A D) (y:A<D):RA nb base vh vb vh' vb' m hs bh F w w' A:=
 ⟨h.net,h.nf,h.a,λk b=>by have:=h.o1 k b;omega,λk b=>by have:=h.o2 k b;omega⟩
theorem RD.below {A:Nat} (h:RD nb base vh vb vh' vb' m hs bh F L w w' A D) (y:Bl w' w''):RD nb base vh vb vh' vb' m hs bh F L w w'' A D:=
 ⟨h.net.below y,h.nf.trans (NF.of _ _ (by have:=h.net.c.lt;omega) y),h.a.block (y.block _ h.a.ltB),h.d.block (y.block _ h.dl),by have:=y.size;have:=h.dl;omega,h.o1,h.o2⟩
theorem RD.call {A:Nat} (h:RD nb base vh vb vh' vb' m hs bh F L w w' A D) (H:nb<A) (J:A<D) (z:YH nb base vh2 vb2 m2 hs2 bh2 F w'') (y:NF nb vh' vb' vh2 vb2 w' w''):RD nb base vh vb vh2 vb2 m2 hs2 bh2 F L w w'' A D:=by
 have ha:=h.a.ltB;have f:=h.dl;have hs:=y.b.size;refine⟨z,h.nf.trans y,h.a.block (y.k A ha (by omega) (λe=>by have:=h.o1 A e;omega) (λe=>by have:=h.o2 A e;omega)),h.d.block (y.k D f (by omega) (λe=>by have:=h.o1 D e;omega) (λe=>by have:=h.o2 D e;omega)),by omega,λk c=>?_,λk c=>?_⟩
 ·rcases y.oh k c with e|e
  ·exact h.o1 k e
  exact Or.inr (by omega)
 rcases y.ob k c with e|e
 ·exact h.o2 k e
 exact Or.inr (by omega)
theorem RD.mine {A C:Nat} (h:RD nb base vh vb vh' vb' m hs bh F L w w' A D) (H:nb<A) (Y:A<D) (Z:w.heap.size<=A) (z:nb<w.heap.size) (J:D<C) (h1:∀k,vh'.ownBlock=some k->k≠C) (h2:∀k,vb'.ownBlock=some k->k≠C) (y:w'.grownBy w'' (some C)):RD nb base vh vb vh' vb' m hs bh F L w w'' A D:=
 ⟨h.net.mine y (by omega) (λe=>h1 _ e rfl) (λe=>h2 _ e rfl),h.nf.mine y (by omega) z,h.a.block (y.block A h.a.ltB (λe=>by have:=Zh e;omega)),h.d.block (y.block D h.dl (λe=>by have:=Zh e;omega)),by have:=y.size;have:=h.dl;omega,h.o1,h.o2⟩
theorem Je {f:Nat} (h:Pp f 0 ts e) (h0:e.sz=0):e=.eps:=by
 rcases f with _|f
 ·exact absurd h (by simp[Pp])
 unfold Pp at h;rcases h with ⟨q,_,_,_,rfl⟩|⟨_,_,_,e0,_,_,_,_,_,_,rfl⟩|⟨_,_,e0,_,_,_,_,rfl⟩
 ·simp[Rx.sz]at h0
 ·rw[Rx.nz_sz]at h0;unfold Rx.nz;rw[if_pos h0]
 rw[Rx.nz_sz]at h0;unfold Rx.nz;rw[if_pos h0]
theorem De (h:e.nz.sz≠0):e.nz=e:=by rw[Rx.nz_sz]at h;unfold Rx.nz;rw[if_neg h]
theorem GZ (f:N_) (n i:Nat) (y:n<96):YZ (.lit f) n i=Dg n i:=by
 unfold YZ Dg;by_cases h0:i=0
 ·subst h0;simp[Rx.nul];omega
 by_cases h1:i<97
 ·simp only[h0,h1,if_true,if_false,Rx.fst];by_cases h2:i=1+n
  ·subst h2;simp
  rw[show(i-1==n)=false by simp;omega,show(i==1+n)=false by simpa using h2,show(i==97+n)=false by simp;omega];rfl
 simp only[h0,h1,if_false,Rx.lst];by_cases h2:i=97+n
 ·subst h2;simp
 rw[show(i-97==n)=false by simp;omega,show(i==97+n)=false by simpa using h2,show(i==1+n)=false by simp;omega];rfl
theorem K0 {Q:Act->Prop} (Y:Region.wanted op (yielded ops a.tmps)=true) (x:Operand) (y:Operand) (J:op.op=.slice 194 x none (some y) none)
  (ad:Option Addr) (len cap:Nat) (Z:a.eval x=.slice ad len cap) (h:Nat) (z:a.eval y=I6 h) (h2:h<=cap)
  (H:wpStill Tryz.prog ops w Q rest (a.put op.dst (.slice (PA ad cap 0) (h-0) (cap-0)))):wpStill Tryz.prog ops w Q (op::rest) a:=
 wpStill_step λK e=>by
  rw[if_pos Y];unfold Oper.still execOp;have hs:(sizeOf 261).run Tryz.prog w=.ok 261 w:=by kernel_rfl
  have b:∀c,(Instr.sliceBound (I6 (h:Int)) cap c).run Tryz.prog w=.ok h w:=λc=>by simp[Instr.sliceBound,asIntOf,Sem.run_ite];omega
  have d:(Instr.sliceBounds true len cap none (some (I6 (h:Int))) none).run Tryz.prog w=.ok (0,h,cap) w:=by simp[Instr.sliceBounds,b]
  have f:(Instr.sliceAt 194 (.slice ad len cap) none (some (I6 (h:Int))) none).run Tryz.prog w=.ok (.slice (PA ad cap 0) (h-0) (cap-0)) w:=by
   simp only[Instr.sliceAt,Instr.slice,Sem.run_bind,run_underlying u_n,Zu,d,hs,Sem.run_pure];rfl
  simp only[J,Z,Sem.run_bind,Option.map_none,Option.map_some,z,f,Zu,Sem.run_pure];exact⟨rfl,e _ H⟩
theorem Th {f:Nat}{p:Pt} (h:Pp (f+1) 0 ts e) (H:XU Sm ps ts) (J:ps.length=m+1) (Y:ps[m]?=some p):
  (p.kd=1/\e=.lit p.f)\/(p.kd=3/\∃inn e0,Pp f 2 inn e0/\e=e0.nz/\XU Sm ((ps.drop 1).take (m-1)) inn/\inn.length=m-1/\1<=m) \/
  ((p.kd=5\/p.kd=6\/p.kd=7\/p.kd=8)/\∃q e0 le mo,Pp f 0 q e0/\XU Sm (ps.take m) q/\q.length=m/\e=(Rx.suf p.kd le mo e0).nz/\(p.kd=8->p.le=((le:Nat):Int)/\p.mo=((mo:Nat):Int)/\le<=9/\mo<=9)):=by
 have last:∀(a:List Tq) (t:Tq),XU Sm ps (a++[t])->a.length=m/\XU Sm (ps.take m) a/\Sm p t:=λa t d=>by
  have w:=d.len;have g:a.length=m:=by simp at w;omega
  obtain⟨h1,h2⟩:=XU.split _ _ _ d;rw[g]at h1 h2;refine⟨g,h1,?_⟩;have:ps.drop m=[p]:=by
   have i:m<ps.length:=by omega
   rw[List.drop_eq_getElem_cons i,List.drop_of_length_le (by omega)];rw[Zd i]at Y;rw[Zh Y]
  rw[this]at h2;cases h2 with
  |cons h t=>exact h
 unfold Pp at h;rcases h with ⟨q,rfl,h2,h3,rfl⟩|⟨a,inn,b,e0,rfl,h2,h3,l,s,u,rfl⟩|⟨q,t,e0,rfl,h2,h3,l,rfl⟩
 ·obtain⟨_,_,hs⟩:=last [] q H;exact Or.inl ⟨by rw[hs.1];exact h3,by rw[hs.2.2.1]⟩
 ·obtain⟨j,k,hs⟩:=last (a::inn) b H;refine Or.inr (Or.inl ⟨by rw[hs.1];exact s,inn,e0,u,rfl,?_,by simp at j;omega,by simp at j;omega⟩);have o:=(XU.split [a] inn _ k).2;rw[List.drop_take]at o;simpa using o
 obtain⟨j,k,hs⟩:=last q t H;have v:p.kd=5\/p.kd=6\/p.kd=7\/p.kd=8:=by rw[hs.1];exact l
 refine Or.inr (Or.inr ⟨v,q,e0,t.le.toNat,t.t.mo.toNat,h2,k,j,by rw[hs.1],λn=>?_⟩);have c:t.t.kd=8:=by rw[<-hs.1];exact n
 obtain⟨x,r,_,x1,x2,x3⟩:=h3.2.2 c;have J:=NY h3.1 c;have A:t.t.mo<=9:=by
  rcases J.2 with ⟨y,_,B,C,D⟩|⟨y,z,_,_,_,B,C,D⟩<;>omega
 rw[hs.2.2.2 n,hs.2.1];omega
theorem Fh (f:Nat) (hP:Qc 210 0 f) (hW:Qc 173 2 f):Qc 210 0 (f+1):=by
 intro ts e ps ad cap nb base vh vb n hs bh F w hp hb y hn aM;have hz:=Wo;have aa:=y.net.c.lt;obtain⟨A,hA⟩:∃A,A=w.heap.size:=⟨_,rfl⟩;obtain⟨W1,aE⟩:∃W,W=w.alloc (.cells (bl (λ_=>false) 193).toArray 247):=⟨_,rfl⟩;have T1:=TC.boxed w (bl (λ_=>false) 193) 247;have x1:=box_bel w (.cells (bl (λ_=>false) 193).toArray 247);rw[<-aE]at T1 x1;rw[<-hA]at T1;have aH:=y.net.h.blk;have aI:=y.net.b.blk;have R1:RA nb base vh vb vh vb n hs bh F w W1 A:=
  ⟨y.net.below x1,NF.of vh vb (by omega) x1,T1,λk R=>Or.inl (by have:=(aH k R).2;omega),λk R=>Or.inl (by have:=(aI k R).2;omega)⟩
 have aQ:Hid (Cp 168 #[.slice ad ps.length cap] W1 λen w'=>en=.returned (I6 (Pg.capped e.sz))/\Bl W1 w'):=by
  have:=Lj ad cap ps W1 y.len (y.prt.below x1) aM;rw[JP hp hb]at this;exact this
 have aY:=JM (n:=e.sz);have br:=Vf (a:=(e.sz:Int)) (by omega);have HA:Hid (A=w.heap.size):=hA;have ay:Hid (W1=w.alloc (.cells (bl (λ_=>false) 193).toArray 247)):=aE;have ax:Hid (RA nb base vh vb vh vb n hs bh F w W1 A):=R1;have C:nb<A:=by omega
 by_cases h0:e.sz=0
 ·have T:=Je hp h0;subst T;have bd:Pg.capped (Rx.eps.sz:Nat)=0:=rfl;rw[bd]at aQ;clear hP hW hp hb y hn aM hA aE T1 x1 R1 aH aI aY br h0 bd;go_enter Tryz.func210,Tryz.ntmps210;go_wp2_with fail;rw[<-ay.out];refine aQ.out.mono ?_;rintro en w1 ⟨rfl,an⟩;go_wp2_with fail;refine Calls.mono (Te w1) ?_;rintro en w2 ⟨rfl,ao⟩;have R2:=(ax.out.below an).below ao;have N:=HA.out;obtain⟨B,G,K,d4⟩:=R2.done C (by omega) aa (YZ .eps n);obtain⟨M,s⟩:∃M,M=bl (YZ .eps n) 193:=⟨_,rfl⟩;rw[<-s]at B G K;have bb:bl RM 193=M:=by rw[s];exact(YU (λi hi=>Qw n i hi)).symm
  rw[bb];obtain⟨E,l⟩:∃W,W=w2.setCells A 0 M:=⟨_,rfl⟩;rw[<-l]at B G K;have J:Hid (E=w2.setCells A 0 M):=l;have u:Hid ((loadVar 247 (a_ A 0)).run Tryz.prog E=.ok (.agg M.toArray) E):=B;have t:Hid (M.length=193):=by show _=_;rw[s];exact Y9 _ _
  have I:Hid (M.toArray.all (·.oneCell')=true):=by show _=true;rw[s];exact YL _ _
  have HM:Hid (M=bl (YZ .eps n) 193):=s;rw[<-HA.out];clear s bb l B R2 N an ao ax ay;go_wp2_with (first|(with_reducible refine gst 247 ?_;refine Za rfl 247 _ _ rfl A 0 M.toArray rfl rfl (by simpa[t.out]using d4) (by simpa[t.out]using Y4) I.out ?_;rw[Zc,<-J.out]));refine Zr (v:=.agg M.toArray) (res_load1 Tryz.results210 rfl u.out) rfl ?_;exact⟨vh,vb,by rw[HM.out],I2 G,K⟩
 have bB:(Pg.capped (e.sz:Int)==0)=false:=by
  have:¬Pg.capped (e.sz:Int)=0:=λh=>h0 (aY.1 h)
  simpa using this
 have bu:0<ps.length:=by
  obtain⟨q,r,h,_⟩:=RK hp;have:=hb.len;rw[h]at this;simp at this;omega
 obtain⟨m,hm⟩:∃m,ps.length=m+1:=⟨ps.length-1,by omega⟩;obtain⟨p,be⟩:∃p,ps[m]?=some p:=⟨ps[m],Zd (by omega)⟩;have Hm:Hid (ps.length=m+1):=hm;have aA:Hid (ps[m]?=some p):=be;have X:Hid (SK nb base vh vb n hs bh F ad cap ps w):=y;have Hp:Hid (Pp (f+1) 0 ts e):=hp;have Hb:Hid (XU Sm ps ts):=hb;have aU:Hid (∀p∈ps,0<=p.mo/\p.mo<=9):=aM;have Hn:Hid (n+e.sz<=96):=hn;have HP:Hid (Qc 210 0 f):=hP;have bn:Hid (Qc 173 2 f):=hW;have bp:Hid ((∀k,vh.ownBlock=some k->k<A)/\(∀k,vb.ownBlock=some k->k<A)):=⟨λk R=>by have:=(aH k R).2;omega,λk R=>by have:=(aI k R).2;omega⟩;have bA:(ps.length:Int)-1=(m:Int):=by omega
 have bz:(m:Int)<(ps.length:Int):=by omega
 have a1:m<=cap:=by have:=y.lcap;omega
 have bx:(ps.length:Int)<=100:=by have:=y.len;omega
 have aO:=y.lcap;clear hP hW hp hb y hn aM hA aE T1 x1 R1 aH aI aY bu hm be;go_enter Tryz.func210,Tryz.ntmps210;go_wp2_with fail;rw[<-ay.out];refine aQ.out.mono ?_;rintro en w1 ⟨rfl,an⟩;have R2:=ax.out.below an;obtain⟨g,o,e1,bi⟩:=X.out.prt.nf X.out.sep R2.nf m p aA.out;have hr:w1.rangeAt g (o+m*261) (YX p.kd p.pl p.f p.le p.mo p.fa):=bi;subst e1;have bD:=XP w1;have hN:=YF.boxed w1 0 0 (λ_=>false) 0 0 0 261;have aD:=hN.free;have s:=hN.put p.kd p.pl p.f p.le p.mo p.fa;obtain⟨S,aF⟩:∃W,W=((w1.alloc (Obj.cells (YX 0 0 (λ_=>false) 0 0 0).toArray 261)).setCells w1.heap.size 0 (YX p.kd p.pl p.f p.le p.mo p.fa)):=⟨_,rfl⟩;have ao:Bl w1 S:=by rw[aF];exact((Zk _ _).alloc (Zg _) _).trans (Y6 w1.heap.size w1.heap.size 0 (Zg _) _ _ 0)
 rw[<-aF]at s;obtain⟨D,hD⟩:∃D,D=w1.heap.size:=⟨_,rfl⟩;have H:A<D:=by have:=R2.a.ltB;omega
 have a3:=bp.out;have aX:RD nb base vh vb vh vb n hs bh F (YX p.kd p.pl p.f p.le p.mo p.fa) w S A D:=by
  have R3:=R2.below ao;rw[<-hD]at s;exact⟨R3.net,R3.nf,R3.a,s.tc,s.lt,λk R=>Or.inl (a3.1 k R),λk R=>Or.inl (a3.2 k R)⟩
 have az:Hid (S=((w1.alloc (Obj.cells (YX 0 0 (λ_=>false) 0 0 0).toArray 261)).setCells w1.heap.size 0 (YX p.kd p.pl p.f p.le p.mo p.fa))):=aF;have HD:Hid (D=w1.heap.size):=hD;have z:Hid (RD nb base vh vb vh vb n hs bh F (YX p.kd p.pl p.f p.le p.mo p.fa) w S A D):=aX;have aK:∀(j:Nat) (v:Value),(YX p.kd p.pl p.f p.le p.mo p.fa)[j]?=some v->S.cell? (a_ w1.heap.size j)=some v:=λj v hv=>by rw[<-hD];exact(aX.d j v hv).1
 have k0:=aK 0 _ rfl;have k3:=aK 258 (I6 p.le) (by rw[show 258=258+0 from rfl,VZ];rfl);have k4:=aK 259 (I6 p.mo) (by rw[show 259=258+1 from rfl,VZ];rfl);have af:S.rangeAt w1.heap.size 2 (bl p.f 256):=s.set;rw[<-HA.out];clear hN s aF ao hD aX aK R2 bi an ax ay a3;by_cases ab:p.kd=1
 ·have T:e=.lit p.f:=by
   rcases Th Hp Hb Hm aA with ⟨_,h⟩|⟨h,_⟩|⟨h,_⟩
   ·exact h
   ·omega
   omega
  subst T;have O:n<96:=by have:=Hn.out;simp[Rx.sz]at this;omega
  rw[ab]at k0;have ak:Hid (Cp 219 #[pT nb,.agg (bl p.f 256).toArray] S λen w'=>∃vh' vb',en=.returned (.agg (bl (Dg n) 193).toArray)/\YH nb base vh' vb' (n+1) (λq=>if q=n then p.f else hs q) (λq=>if q=n then (λ_=>false) else bh q) F w'/\NF nb vh vb vh' vb' S w'):=
   GO nb base vh vb n hs bh F p.f S z.out.net X.out.lnb (by have:=z.out.nf.b.size;have:=X.out.bw;omega) O
  clear k3 k4 ab;go_wp2_with (first|(with_reducible refine lP rfl hr ?_)|(with_reducible refine sP rfl rfl aD ?_;rw[Zc,<-az.out])|(with_reducible refine gld 251 ?_;refine Zb rfl 251 _ rfl w1.heap.size 2 rfl (bl p.f 256) _ af u_c rfl (by rw[Y9];exact Qm) ?_));refine ak.out.mono ?_;rintro en w5 ⟨vh2,vb2,rfl,N5,F5⟩;have N6:YH nb base vh2 vb2 (n+(Rx.lit p.f).sz) (Uy hs (.lit p.f) n) (Tu bh (.lit p.f) n) F w5:=by
   refine YH.congr (show YH nb base vh2 vb2 (n+1) _ _ F w5 from N5) (λq b hq _=>?_) (λq b hq _=>?_)
   ·unfold Uy;by_cases av:q=n
    ·subst av;simp[Rx.has]
    have aw:q<n:=by simp only[Rx.sz]at hq;omega
    simp[av,aw]
   unfold Tu;by_cases av:q=n
   ·subst av;simp[Rx.fol]
   have aw:q<n:=by simp only[Rx.sz]at hq;omega
   simp[av,aw]
  have R9:=(z.out.call C H N6 F5).ra H;have bj:bl (Dg n) 193=bl (YZ (.lit p.f) n) 193:=YU (λi _=>(GZ p.f n i O).symm);rw[bj];clear bj N5 F5 z ak af;have N:=HA.out;obtain⟨B,G,K,d4⟩:=R9.done C (by omega) aa (YZ (.lit p.f) n);obtain⟨M,s⟩:∃M,M=bl (YZ (.lit p.f) n) 193:=⟨_,rfl⟩;rw[<-s]at B G K ⊢;obtain⟨E,l⟩:∃W,W=w5.setCells A 0 M:=⟨_,rfl⟩;rw[<-l]at B G K;have J:Hid (E=w5.setCells A 0 M):=l;have u:Hid ((loadVar 247 (a_ A 0)).run Tryz.prog E=.ok (.agg M.toArray) E):=B;have t:Hid (M.length=193):=by show _=_;rw[s];exact Y9 _ _
  have I:Hid (M.toArray.all (·.oneCell')=true):=by show _=true;rw[s];exact YL _ _
  have HM:Hid (M=bl (YZ (.lit p.f) n) 193):=s;clear s l B N;go_wp2_with (first|(with_reducible refine gst 247 ?_;refine Za rfl 247 _ _ rfl A 0 M.toArray rfl rfl (by simpa[t.out]using d4) (by simpa[t.out]using Y4) I.out ?_;rw[Zc,<-J.out]));refine Zr (v:=.agg M.toArray) (res_load1 Tryz.results210 rfl u.out) rfl ?_;exact⟨vh2,vb2,by rw[HM.out],G,K⟩
 have q1:(p.kd==1)=false:=by simpa using ab
 by_cases aj:p.kd=3
 ·obtain⟨inn,e0,hq,T,bc,bt,bv⟩:∃inn e0,Pp f 2 inn e0/\e=e0.nz/\XU Sm ((ps.drop 1).take (m-1)) inn/\inn.length=m-1/\1<=m:=by
   rcases Th Hp Hb Hm aA with ⟨h,_⟩|⟨_,h⟩|⟨h,_⟩
   ·omega
   ·exact h
   omega
  have ah:e=e0:=by rw[T];exact De (by rw[<-T];exact h0)
  subst ah;have P:=X.out;rw[aj]at k0;have a8:Hid (Cp 173 #[pT nb,.slice (PA (some (a_ g o)) cap 1) (m-1) (cap-1)] S (VM nb base vh vb n hs bh F e S)):=by
   have bC:=Hm.out;have h1:((ps.drop 1).take (m-1)).length=m-1:=by rw[List.length_take,List.length_drop];omega
   have h3:=(P.prt.nf P.sep z.out.nf).sub (cap:=cap) 1 (m-1) (by omega) aO;have:=bn.out inn e ((ps.drop 1).take (m-1)) (PA (some (a_ g o)) cap 1) (cap-1) nb base vh vb n hs bh F S hq bc ⟨z.out.net,P.lnb,by have:=z.out.nf.b.size;have:=P.bw;omega,h3,by have:=P.len;omega,by omega,(P.sep.nf z.out.nf).sub _ _⟩ Hn (λx hx=>aU.out x (List.mem_of_mem_drop (List.mem_of_mem_take hx)));rw[h1]at this;exact this
  clear k3 k4 aj ab P hq T bc bt;go_wp2_with (first|(with_reducible refine lP rfl hr ?_)|(with_reducible refine sP rfl rfl aD ?_;rw[Zc,<-az.out])|(with_reducible show wpList _ _ _ (⟨_,Op.slice 194 _ _ _ _,_,_,_,_⟩::_) _ _;refine X9.out ?_));refine⟨?_⟩
  (try simp only[psm])
  refine V5 rfl _ _ _ rfl (some (a_ g o)) ps.length cap rfl 1 m (Or.inr ⟨_,rfl,rfl⟩) (Or.inr ⟨_,rfl,rfl⟩) bv a1 ?_;go_wp2_with fail;refine a8.out.mono ?_;rintro en w5 ⟨vh2,vb2,rfl,N5,F5⟩;have R9:=(z.out.call C H N5 F5).ra H;clear N5 F5 z a8 af;have N:=HA.out;obtain⟨B,G,K,d4⟩:=R9.done C (by omega) aa (YZ e n);obtain⟨M,s⟩:∃M,M=bl (YZ e n) 193:=⟨_,rfl⟩;rw[<-s]at B G K ⊢;obtain⟨E,l⟩:∃W,W=w5.setCells A 0 M:=⟨_,rfl⟩;rw[<-l]at B G K;have J:Hid (E=w5.setCells A 0 M):=l;have u:Hid ((loadVar 247 (a_ A 0)).run Tryz.prog E=.ok (.agg M.toArray) E):=B;have t:Hid (M.length=193):=by show _=_;rw[s];exact Y9 _ _
  have I:Hid (M.toArray.all (·.oneCell')=true):=by show _=true;rw[s];exact YL _ _
  have HM:Hid (M=bl (YZ e n) 193):=s;clear s l B N;go_wp2_with (first|(with_reducible refine gst 247 ?_;refine Za rfl 247 _ _ rfl A 0 M.toArray rfl rfl (by simpa[t.out]using d4) (by simpa[t.out]using Y4) I.out ?_;rw[Zc,<-J.out]));refine Zr (v:=.agg M.toArray) (res_load1 Tryz.results210 rfl u.out) rfl ?_;exact⟨vh2,vb2,by rw[HM.out],G,K⟩
 have q3:(p.kd==3)=false:=by simpa using aj
 obtain⟨ar,q,e0,le,mo,hq,aJ,bf,T,au⟩:(p.kd=5\/p.kd=6\/p.kd=7\/p.kd=8)/\∃q e0 le mo,Pp f 0 q e0/\XU Sm (ps.take m) q/\q.length=m/\e=(Rx.suf p.kd le mo e0).nz/\(p.kd=8->p.le=((le:Nat):Int)/\p.mo=((mo:Nat):Int)/\le<=9/\mo<=9):=by
  rcases Th Hp Hb Hm aA with ⟨h,_⟩|⟨h,_⟩|h
  ·omega
  ·omega
  exact h
 have ah:e=Rx.suf p.kd le mo e0:=by rw[T];exact De (by rw[<-T];exact h0)
 have P:=X.out;have h1:(ps.take m).length=m-0:=by rw[List.length_take];have:=Hm.out;omega
 have bm:∀W,NF nb vh vb vh vb w W->PS (PA (some (a_ g o)) cap 0) (ps.take m) W:=λW hf=>by
  have h3:=(P.prt.nf P.sep hf).sub (cap:=cap) 0 m (by have:=Hm.out;omega) aO;rw[Zw]at h3;exact h3
 have aB:Hid (∀W,NF nb vh vb vh vb w W->PS (PA (some (a_ g o)) cap 0) (ps.take m) W):=bm;have Z:(ps.take m).length<=100:=by rw[List.length_take];have:=P.len;omega
 clear bm;by_cases ac:p.kd=8
 ·have aZ:e=Rx.rowOf (Rx.copies e0 le mo):=by rw[ah,ac];rfl
  obtain⟨l1,l2,l3,l4⟩:=au ac;rw[ac]at k0;rw[l1]at k3;rw[l2]at k4;have aN:e.sz=mo*e0.sz:=by rw[aZ];exact Rx.copies_sz e0 le mo
  have V:Hid (RD nb base vh vb vh vb n hs bh F (YX p.kd p.pl p.f p.le p.mo p.fa) w S.drew A D):=z.out.below (Zk _ _).drew;have a6:Hid (Cp 220 #[pT nb,.slice (PA (some (a_ g o)) cap 0) (m-0) (cap-0),I6 le,I6 mo] S.drew (VM nb base vh vb n hs bh F e S.drew)):=by
   have:=IN f HP q e0 (ps.take m) (PA (some (a_ g o)) cap 0) (cap-0) nb base vh vb n hs bh F le mo S.drew hq aJ ⟨V.out.net,P.lnb,by have:=V.out.nf.b.size;have:=P.bw;omega,aB _ V.out.nf,Z,by omega,(P.sep.nf V.out.nf).sub _ _⟩ (by have:=Hn.out;omega) (λx hx=>aU.out x (List.mem_of_mem_take hx)) l4 l3;rw[h1,<-aZ]at this;exact this
  clear ac aj ab P hq T aJ bf au l1 l2 l3 l4 ah aZ aN h1 aB Z ar;go_wp2_with (first|(with_reducible refine lP rfl hr ?_)|(with_reducible refine sP rfl rfl aD ?_;rw[Zc,<-az.out]));refine wp_region_still_tail 8 (by kernel_rfl) (by kernel_rfl) ?_;simp only[ZK,List.take_zero,ZL,Zw];change wpStill _ _ S.drew (λa'=>wpList _ _ _ _ a' S.drew) _ _
  still_step
  still_step
  still_step
  refine K0 rfl _ _ rfl (some (a_ g o)) ps.length cap rfl m rfl a1 ?_
  repeat still_step
  refine wpStill_nil ?_;go_wp2_with fail;refine a6.out.mono ?_;rintro en w5 ⟨vh2,vb2,rfl,N5,F5⟩;have R9:=(V.out.call C H N5 F5).ra H;clear N5 F5 z V a6 af;have N:=HA.out;obtain⟨B,G,K,d4⟩:=R9.done C (by omega) aa (YZ e n);obtain⟨M,s⟩:∃M,M=bl (YZ e n) 193:=⟨_,rfl⟩;rw[<-s]at B G K ⊢;obtain⟨E,l⟩:∃W,W=w5.setCells A 0 M:=⟨_,rfl⟩;rw[<-l]at B G K;have J:Hid (E=w5.setCells A 0 M):=l;have u:Hid ((loadVar 247 (a_ A 0)).run Tryz.prog E=.ok (.agg M.toArray) E):=B;have t:Hid (M.length=193):=by show _=_;rw[s];exact Y9 _ _
  have I:Hid (M.toArray.all (·.oneCell')=true):=by show _=true;rw[s];exact YL _ _
  have HM:Hid (M=bl (YZ e n) 193):=s;clear s l B N;go_wp2_with (first|(with_reducible refine gst 247 ?_;refine Za rfl 247 _ _ rfl A 0 M.toArray rfl rfl (by simpa[t.out]using d4) (by simpa[t.out]using Y4) I.out ?_;rw[Zc,<-J.out]));refine Zr (v:=.agg M.toArray) (res_load1 Tryz.results210 rfl u.out) rfl ?_;exact⟨vh2,vb2,by rw[HM.out],G,K⟩
 have q8:(p.kd==8)=false:=by simpa using ac
 have aN:e.sz=e0.sz:=by
  rw[ah];unfold Rx.suf;rcases ar with h|h|h|h
  ·rw[if_pos h];rfl
  ·rw[g_,if_pos h];rfl
  ·rw[g_,g_,if_pos h];rfl
  omega
 have O:n+e0.sz<=96:=by have:=Hn.out;omega
 have a7:Hid (Cp 210 #[pT nb,.slice (PA (some (a_ g o)) cap 0) (m-0) (cap-0)] S (VM nb base vh vb n hs bh F e0 S)):=by
  have:=HP.out q e0 (ps.take m) (PA (some (a_ g o)) cap 0) (cap-0) nb base vh vb n hs bh F S hq aJ ⟨z.out.net,P.lnb,by have:=z.out.nf.b.size;have:=P.bw;omega,aB _ z.out.nf,Z,by omega,(P.sep.nf z.out.nf).sub _ _⟩ O (λx hx=>aU.out x (List.mem_of_mem_take hx));rw[h1]at this;exact this
 have aW:Hid (e.sz=e0.sz):=aN;have aT:Hid (e=Rx.suf p.kd le mo e0):=ah;have aP:=P.lnb;clear P hq T aJ bf au ah h1 aB Z aN k3 k4;go_wp2_with (first|(with_reducible refine lP rfl hr ?_)|(with_reducible refine sP rfl rfl aD ?_;rw[Zc,<-az.out])|(with_reducible show wpList _ _ _ (⟨_,Op.slice 194 _ _ _ _,_,_,_,_⟩::_) _ _;refine X9.out ?_));refine⟨?_⟩
 (try simp only[psm])
 refine V5 rfl _ _ _ rfl (some (a_ g o)) ps.length cap rfl 0 m (Or.inl ⟨rfl,rfl⟩) (Or.inr ⟨_,rfl,rfl⟩) (Nat.zero_le _) a1 ?_;go_wp2_with fail;refine a7.out.mono ?_;rintro en w3 ⟨vh2,vb2,rfl,N3,F3⟩;have R3:=z.out.call C H N3 F3;obtain⟨b1,b2,b3⟩:=UM w3 (YZ e0 n);have a4:(w3.alloc (.cells (bl (λ_=>false) 193).toArray 247)).there w3.heap.size 0 193:=Yi (TC.boxed w3 _ _);obtain⟨L3,aC⟩:∃L,L=bl (YZ e0 n) 193:=⟨_,rfl⟩;obtain⟨W4,aG⟩:∃W,W=(w3.alloc (.cells (bl (λ_=>false) 193).toArray 247)).setCells w3.heap.size 0 (bl (YZ e0 n) 193):=⟨_,rfl⟩;rw[<-aG]at b1 b2 b3;rw[<-aC]at aG ⊢;have U:Hid (L3.length=193):=by show _=_;rw[aC];exact Y9 _ _
 have al:Hid (L3.toArray.all (·.oneCell')=true):=by show _=true;rw[aC];exact YL _ _
 have aR:Hid (W4=(w3.alloc (.cells (bl (λ_=>false) 193).toArray 247)).setCells w3.heap.size 0 L3):=aG;have R4:=R3.below b2;have a2:(∀k,vh2.ownBlock=some k->k<w3.heap.size)/\(∀k,vb2.ownBlock=some k->k<w3.heap.size):=⟨λk R=>(N3.h.blk k R).2,λk R=>(N3.b.blk k R).2⟩;have a9:D<w3.heap.size:=R3.dl;have aV:Hid ((∀k,vh2.ownBlock=some k->k<w3.heap.size)/\(∀k,vb2.ownBlock=some k->k<w3.heap.size)/\D<w3.heap.size):=⟨a2.1,a2.2,a9⟩;have aL:=(R4.d 0 _ (Vd _ _ _ _ _ _)).1;rw[HD.out]at aL;have g1:=b1.sub 97 96 (by omega);have g2:=b1.sub 1 96 (by omega);have Y:Hid (RD nb base vh vb vh2 vb2 (n+e0.sz) (Uy hs e0 n) (Tu bh e0 n) F (YX p.kd p.pl p.f p.le p.mo p.fa) w W4 A D):=R4;have am:Hid (TC w3.heap.size (bl (YZ e0 n) 193) W4):=b1;clear aC aG b1 b2 b3 R3 R4 N3 F3 a7 z af a2 a9;by_cases ap:p.kd=5
 ·have T:e=.star e0:=by rw[aT.out,ap];rfl
  rw[ap]at aL;have HK:Hid (p.kd=5):=ap;have Q:=Y.out;have ak:Hid (Cp 221 #[pT nb,.agg (bl (λi=>YZ e0 n (97+i)) 96).toArray,.agg (bl (λi=>YZ e0 n (1+i)) 96).toArray] W4 λen w'=>en=.returned (.tuple #[])/\YH nb base vh2 vb2 (n+e0.sz) (Uy hs e0 n) (PU (Tu bh e0 n) (λi=>YZ e0 n (97+i)) (λi=>YZ e0 n (1+i)) (n+e0.sz)) F w'/\NF nb vh2 vb2 vh2 vb2 W4 w'):=NT nb base vh2 vb2 (n+e0.sz) _ _ F _ _ W4 Q.net aP O;have He:Hid (e=.star e0):=T;clear Q T ar ac aj ab ap;go_wp2_with (first|(with_reducible refine gst 247 ?_;refine Za rfl 247 _ _ rfl w3.heap.size 0 L3.toArray rfl rfl (by simpa[U.out]using a4) (by simpa[U.out]using Y4) al.out ?_;rw[Zc,<-aR.out])|(with_reducible refine gld 132 ?_;refine Zb rfl 132 _ rfl w3.heap.size 97 rfl _ _ g1 u_a rfl (by rw[Y9];exact Y1) ?_)|(with_reducible refine gld 132 ?_;refine Zb rfl 132 _ rfl w3.heap.size 1 rfl _ _ g2 u_a rfl (by rw[Y9];exact Y1) ?_));refine ak.out.mono ?_;rintro en w5 ⟨rfl,N5,F5⟩;have R5:=Y.out.call C H N5 F5;obtain⟨o1,o2,o3⟩:=aV.out;have a5:w3.heap.size<W4.heap.size:=am.out.ltB;have c5:=am.out.block (F5.k w3.heap.size a5 (by omega) (λx=>by have:=o1 _ x;omega) (λx=>by have:=o2 _ x;omega));have ae:=(R5.d 0 _ (Vd _ _ _ _ _ _)).1;rw[HD.out]at ae;rw[HK.out]at ae;obtain⟨c0,bq⟩:=c5 0 _ (YO _ (by omega));have c6:=c5.set 0 (by rw[Y9];omega) (.bool true);rw[Uz,YU (g:=YZ e n) (λj _=>by
   rw[He.out];unfold YZ;by_cases h0:j=0
   ·simp[h0,Rx.nul]
   simp[h0,Rx.fst,Rx.lst])]at c6
  have ai:w5.grownBy (w5.setCell (a_ w3.heap.size 0) (.bool true)) (some w3.heap.size):=Y8 w3.heap.size [.bool true] 0 w5;obtain⟨W6,ag⟩:∃W,W=w5.setCell (a_ w3.heap.size 0) (.bool true):=⟨_,rfl⟩;rw[<-ag]at c6 ai;have aS:Hid (W6=w5.setCell (a_ w3.heap.size 0) (.bool true)):=ag;have N:=HA.out;have R6:=R5.mine C H (by omega) aa o3 (λk R=>by have:=o1 k R;omega) (λk R=>by have:=o2 k R;omega) ai;obtain⟨B,G,K,d4⟩:=(R6.ra H).done C (by omega) aa (YZ e n);have rM:=c6.range;obtain⟨M,s⟩:∃M,M=bl (YZ e n) 193:=⟨_,rfl⟩;rw[<-s]at B G K rM;obtain⟨E,l⟩:∃W,W=W6.setCells A 0 M:=⟨_,rfl⟩;rw[<-l]at B G K;have J:Hid (E=W6.setCells A 0 M):=l;have u:Hid ((loadVar 247 (a_ A 0)).run Tryz.prog E=.ok (.agg M.toArray) E):=B;have t:Hid (M.length=193):=by show _=_;rw[s];exact Y9 _ _
  have I:Hid (M.toArray.all (·.oneCell')=true):=by show _=true;rw[s];exact YL _ _
  have HM:Hid (M=bl (YZ e n) 193):=s;have NX:YH nb base vh2 vb2 (n+e.sz) (Uy hs e n) (Tu bh e n) F E:=by
   rw[aW.out,He.out];exact G.congr (λp q _ _=>rfl) (λp q hp _=>Kr bh e0 n p q O hp)
  clear s l B G N R6 R5 c6 c5 o1 o2 o3 Y ag ai N5 F5;go_wp2_with (first|(with_reducible refine gld 247 ?_;rw[<-aS.out];refine Zb rfl 247 _ rfl w3.heap.size 0 rfl M _ rM u_b rfl (by rw[t.out];exact Y4) ?_)|(with_reducible refine gst 247 ?_;refine Za rfl 247 _ _ rfl A 0 M.toArray rfl rfl (by simpa[t.out]using d4) (by simpa[t.out]using Y4) I.out ?_;rw[Zc,<-J.out]));refine Zr (v:=.agg M.toArray) (res_load1 Tryz.results210 rfl u.out) rfl ?_;exact⟨vh2,vb2,by rw[HM.out],NX,K⟩
 have q5:(p.kd==5)=false:=by simpa using ap
 by_cases aq:p.kd=6
 ·have T:e=.plus e0:=by rw[aT.out,aq];rfl
  rw[aq]at aL;have HK:Hid (p.kd=6):=aq;have Q:=Y.out;have ak:Hid (Cp 221 #[pT nb,.agg (bl (λi=>YZ e0 n (97+i)) 96).toArray,.agg (bl (λi=>YZ e0 n (1+i)) 96).toArray] W4 λen w'=>en=.returned (.tuple #[])/\YH nb base vh2 vb2 (n+e0.sz) (Uy hs e0 n) (PU (Tu bh e0 n) (λi=>YZ e0 n (97+i)) (λi=>YZ e0 n (1+i)) (n+e0.sz)) F w'/\NF nb vh2 vb2 vh2 vb2 W4 w'):=NT nb base vh2 vb2 (n+e0.sz) _ _ F _ _ W4 Q.net aP O;have He:Hid (e=.plus e0):=T;clear Q T ar ac aj ab aq;go_wp2_with (first|(with_reducible refine gst 247 ?_;refine Za rfl 247 _ _ rfl w3.heap.size 0 L3.toArray rfl rfl (by simpa[U.out]using a4) (by simpa[U.out]using Y4) al.out ?_;rw[Zc,<-aR.out])|(with_reducible refine gld 132 ?_;refine Zb rfl 132 _ rfl w3.heap.size 97 rfl _ _ g1 u_a rfl (by rw[Y9];exact Y1) ?_)|(with_reducible refine gld 132 ?_;refine Zb rfl 132 _ rfl w3.heap.size 1 rfl _ _ g2 u_a rfl (by rw[Y9];exact Y1) ?_));refine ak.out.mono ?_;rintro en w5 ⟨rfl,N5,F5⟩;have R5:=Y.out.call C H N5 F5;obtain⟨o1,o2,o3⟩:=aV.out;have a5:w3.heap.size<W4.heap.size:=am.out.ltB;have c5:=am.out.block (F5.k w3.heap.size a5 (by omega) (λx=>by have:=o1 _ x;omega) (λx=>by have:=o2 _ x;omega));have ae:=(R5.d 0 _ (Vd _ _ _ _ _ _)).1;rw[HD.out]at ae;rw[HK.out]at ae;have c6:TC w3.heap.size (bl (YZ e n) 193) w5:=by rw[He.out];exact c5
  have R6:=R5;have N:=HA.out;obtain⟨B,G,K,d4⟩:=(R6.ra H).done C (by omega) aa (YZ e n);have rM:=c6.range;obtain⟨M,s⟩:∃M,M=bl (YZ e n) 193:=⟨_,rfl⟩;rw[<-s]at B G K rM;obtain⟨E,l⟩:∃W,W=w5.setCells A 0 M:=⟨_,rfl⟩;rw[<-l]at B G K;have J:Hid (E=w5.setCells A 0 M):=l;have u:Hid ((loadVar 247 (a_ A 0)).run Tryz.prog E=.ok (.agg M.toArray) E):=B;have t:Hid (M.length=193):=by show _=_;rw[s];exact Y9 _ _
  have I:Hid (M.toArray.all (·.oneCell')=true):=by show _=true;rw[s];exact YL _ _
  have HM:Hid (M=bl (YZ e n) 193):=s;have NX:YH nb base vh2 vb2 (n+e.sz) (Uy hs e n) (Tu bh e n) F E:=by
   rw[aW.out,He.out];exact G.congr (λp q _ _=>rfl) (λp q hp _=>Kr bh e0 n p q O hp)
  clear s l B G N R6 R5 c6 c5 o1 o2 o3 Y N5 F5;go_wp2_with (first|(with_reducible refine gld 247 ?_;refine Zb rfl 247 _ rfl w3.heap.size 0 rfl M _ rM u_b rfl (by rw[t.out];exact Y4) ?_)|(with_reducible refine gst 247 ?_;refine Za rfl 247 _ _ rfl A 0 M.toArray rfl rfl (by simpa[t.out]using d4) (by simpa[t.out]using Y4) I.out ?_;rw[Zc,<-J.out]));refine Zr (v:=.agg M.toArray) (res_load1 Tryz.results210 rfl u.out) rfl ?_;exact⟨vh2,vb2,by rw[HM.out],NX,K⟩
 have q6:(p.kd==6)=false:=by simpa using aq
 have a0:p.kd=7:=by omega
 have T:e=.opt e0:=by rw[aT.out,a0];rfl
 rw[a0]at aL;have Q:=Y.out;have R5:=Y.out;obtain⟨o1,o2,o3⟩:=aV.out;have c5:=am.out;have He:Hid (e=.opt e0):=T;clear Q T ar ac aj ab a0;obtain⟨c0,bq⟩:=c5 0 _ (YO _ (by omega));have c6:=c5.set 0 (by rw[Y9];omega) (.bool true);rw[Uz,YU (g:=YZ e n) (λj _=>by
  rw[He.out];unfold YZ;by_cases h0:j=0
  ·simp[h0,Rx.nul]
  simp[h0,Rx.fst,Rx.lst])]at c6
 have ai:W4.grownBy (W4.setCell (a_ w3.heap.size 0) (.bool true)) (some w3.heap.size):=Y8 w3.heap.size [.bool true] 0 W4;obtain⟨W6,ag⟩:∃W,W=W4.setCell (a_ w3.heap.size 0) (.bool true):=⟨_,rfl⟩;rw[<-ag]at c6 ai;have aS:Hid (W6=W4.setCell (a_ w3.heap.size 0) (.bool true)):=ag;have N:=HA.out;have R6:=R5.mine C H (by omega) aa o3 (λk R=>by have:=o1 k R;omega) (λk R=>by have:=o2 k R;omega) ai;obtain⟨B,G,K,d4⟩:=(R6.ra H).done C (by omega) aa (YZ e n);have rM:=c6.range;obtain⟨M,s⟩:∃M,M=bl (YZ e n) 193:=⟨_,rfl⟩;rw[<-s]at B G K rM;obtain⟨E,l⟩:∃W,W=W6.setCells A 0 M:=⟨_,rfl⟩;rw[<-l]at B G K;have J:Hid (E=W6.setCells A 0 M):=l;have u:Hid ((loadVar 247 (a_ A 0)).run Tryz.prog E=.ok (.agg M.toArray) E):=B;have t:Hid (M.length=193):=by show _=_;rw[s];exact Y9 _ _
 have I:Hid (M.toArray.all (·.oneCell')=true):=by show _=true;rw[s];exact YL _ _
 have HM:Hid (M=bl (YZ e n) 193):=s;have NX:YH nb base vh2 vb2 (n+e.sz) (Uy hs e n) (Tu bh e n) F E:=by
  rw[aW.out,He.out];exact G.congr (λp q _ _=>rfl) (λp q _ _=>rfl)
 clear s l B G N R6 R5 c6 c5 o1 o2 o3 Y ag ai;go_wp2_with (first|(with_reducible refine gst 247 ?_;refine Za rfl 247 _ _ rfl w3.heap.size 0 L3.toArray rfl rfl (by simpa[U.out]using a4) (by simpa[U.out]using Y4) al.out ?_;rw[Zc,<-aR.out])|(with_reducible refine gld 247 ?_;rw[<-aS.out];refine Zb rfl 247 _ rfl w3.heap.size 0 rfl M _ rM u_b rfl (by rw[t.out];exact Y4) ?_)|(with_reducible refine gst 247 ?_;refine Za rfl 247 _ _ rfl A 0 M.toArray rfl rfl (by simpa[t.out]using d4) (by simpa[t.out]using Y4) I.out ?_;rw[Zc,<-J.out]));refine Zr (v:=.agg M.toArray) (res_load1 Tryz.results210 rfl u.out) rfl ?_;exact⟨vh2,vb2,by rw[HM.out],NX,K⟩
theorem DJ:∀f,Qc 210 0 f/\Qc 199 1 f/\Qc 173 2 f:=by
 intro f
 induction f with
 |zero=>exact⟨λts e ps ad cap nb base vh vb n hs bh F w h=>absurd h (by simp[Pp]),λts e ps ad cap nb base vh vb n hs bh F w h=>absurd h (by simp[Pp]),λts e ps ad cap nb base vh vb n hs bh F w h=>absurd h (by simp[Pp])⟩
 |succ f ih=>
  obtain⟨h1,h2,h3⟩:=ih;refine⟨Fh f h1 h3,λts e ps ad cap nb base vh vb n hs bh F w g c a d b=>?_,FJ f h2 h3⟩;obtain⟨L,k1,i,j⟩:=g;subst k1;subst j;exact CZ f h1 L ps ad cap nb base vh vb n hs bh F w i c a d b
def FR (F:Nat->Bool) (e:Rx) (n r:Nat):Nat->Bool:=λq=>if q<96 then F q || e.fst n q else if q=96+r then e.nul else F q
def bhR (bh:Nat->Nat->Bool) (e:Rx) (n r m:Nat):Nat->Nat->Bool:=λp q=>Tu bh e n p q || (decide (p<m)&&decide (q=96+r)&&e.lst n p)
theorem UJ (b:Nat):∀(vs:List Value) (o k:Nat) (w:World),(k<o\/o+vs.length<=k)->(w.setCells b o vs).cell? (a_ b k)=w.cell? (a_ b k)
 |[],_,_,_,_=>rfl
 |v::vs,o,k,w,h=>by
  simp only[List.length_cons]at h;rw[World.setCells,UJ b vs (o+1) k _ (by omega),World.cell?_setCell_other _ _ _ _ (by intro a;cases a;omega)]
theorem YH.first (h:YH nb base vh vb n hs bh F w) (y:nb<base) (o m:Nat) (g:N_) (z:o+m<=104):
  YH nb base vh vb n hs bh (Xp F o m g) (w.setCells nb (2+o) (bl g m))/\w.there nb (2+o) m/\NF nb vh vb vh vb w (w.setCells nb (2+o) (bl g m)):=by
 have l:=Y8 nb (bl g m) (2+o) w;have p:∀j,j<104->w.cell? (a_ nb (2+j))=some (.bool (F j))/\w.frozen? (a_ nb (2+j))=false:=λj r=>h.c (2+j) _ (by rw[show 2+j=j+1+1 by omega];simp only[List.getElem?_cons_succ];exact YO F r)
 have i:w.there nb (2+o) m:=λj r=>by
  obtain⟨h1,h2⟩:=p (o+j) (by omega);rw[show 2+(o+j)=2+o+j by omega]at h1 h2;exact⟨by rw[h1];rfl,h2⟩
 refine⟨⟨λk v a=>?_,h.h.keep (λk f=>l.block k (h.h.blk k f).2 (λe=>by have:=Zh e;have:=(h.h.blk k f).1;omega)),h.b.keep (λk f=>l.block k (h.b.blk k f).2 (λe=>by have:=Zh e;have:=(h.b.blk k f).1;omega)),h.ne⟩,i,⟨(Zk _ _).grown l (by have:=h.c.lt;omega) (λq s=>by cases s;omega),λk h1 h2 _ _=>l.block k h1 (λe=>h2 (Zh e)),λ_ h=>Or.inl h,λ_ h=>Or.inl h⟩⟩;rw[World.frozen?_setCells];have f:k<106:=by have:=(Zi.1 a).1;simp[Y9]at this;omega
 by_cases h1:2+o<=k/\k<2+o+m
 ·obtain⟨j,rfl⟩:∃j,k=2+o+j:=⟨k-(2+o),by omega⟩;have t:=Zo w nb (2+o) (bl g m) (by rw[Y9];exact i) j (.bool (g j)) (YO g (by omega));have d:v=.bool (g j):=by
   rw[show 2+o+j=(o+j)+1+1 by omega]at a;simp only[List.getElem?_cons_succ]at a;rw[YO _ (by omega)]at a;unfold Xp at a;rw[p_,show o+j-o=j by omega]at a;exact(Zh a).symm
  rw[d];refine⟨t,?_⟩;obtain⟨_,h2⟩:=p (o+j) (by omega);rw[show 2+(o+j)=2+o+j by omega]at h2;exact h2
 have d:(vh::vb::bl F 104)[k]?=some v:=by
  rcases k with _|_|k
  ·exact a
  ·exact a
  simp only[List.getElem?_cons_succ]at a ⊢;rw[YO _ (by omega)]at a ⊢;unfold Xp at a;rw[g_]at a;exact a
 obtain⟨h2,h3⟩:=h.c k v d;refine⟨?_,h3⟩;rw[UJ _ _ _ _ _ (by rw[Y9];omega)];exact h2
theorem Do (f:Nat) (qs:List Tq) (e:Rx) (ps:List Pt) (ad:Option Addr) (cap nb base:Nat) (vh vb:Value) (n:Nat) (hs bh:Nat->N_) (F:N_) (r:Nat) (w:World) (hp:Pp f 2 qs e) (hb:XU Sm ps qs) (aQ:SK nb base vh vb n hs bh F ad cap ps w) (hn:n+e.sz<=96) (aR:∀p∈ps,0<=p.mo/\p.mo<=9) (aS:r<8):
  Cp 126 #[pT nb,.slice ad ps.length cap,I6 r] w λen w'=>∃vh' vb',en=.returned (.tuple #[])/\YH nb base vh' vb' (n+e.sz) (Uy hs e n) (bhR bh e n r (n+e.sz)) (FR F e n r) w'/\NF nb vh vb vh' vb' w w':=by
 have hz:=Wo;have aP:=aQ.net.c.lt;have J:=aQ.lnb;have aC:=hyd ((DJ f).2.2 qs e ps ad cap nb base vh vb n hs bh F w hp hb aQ hn aR);clear hp hb aQ aR;go_enter Tryz.func126,Tryz.ntmps126;go_wp2_with fail;refine aC.out.mono ?_;rintro en w3 ⟨vh2,vb2,rfl,N3,F3⟩;obtain⟨b1,b2,b3⟩:=UM w3 (YZ e n);have ax:(w3.alloc (.cells (bl (λ_=>false) 193).toArray 247)).there w3.heap.size 0 193:=Yi (TC.boxed w3 _ _);obtain⟨L3,A⟩:=nam (bl (YZ e n) 193);obtain⟨T,C⟩:=nam ((w3.alloc (.cells (bl (λ_=>false) 193).toArray 247)).setCells w3.heap.size 0 (bl (YZ e n) 193));rw[<-C]at b1 b2 b3;rw[<-A]at C ⊢;have l:Hid (L3.length=193):=by show _=_;rw[A];exact Y9 _ _
 have E:Hid (L3.toArray.all (·.oneCell')=true):=by show _=true;rw[A];exact YL _ _
 have aj:=hyd C;have az:=F3.b.size;have aw:=N3.c.lt;have Y:(∀k,vh2.ownBlock=some k->k<w3.heap.size)/\(∀k,vb2.ownBlock=some k->k<w3.heap.size):=⟨λk I=>(N3.h.blk k I).2,λk I=>(N3.b.blk k I).2⟩;have P:=hyd4 Y.1 Y.2 aw az;have R:=N3.below b2;have F4:=F3.trans (NF.of vh2 vb2 (by omega) b2);have ag:=hyd3 R F4 b1;have g1:=b1.sub 1 96 (by omega);have au:T.rangeAt nb 2 (bl F 96):=λj v hv=>by
  have hj:j<96:=by have:=(Zi.1 hv).1;rw[Y9]at this;exact this
  rw[YO _ hj]at hv;exact(R.c (2+j) v (by rw[show 2+j=j+1+1 by omega];simp only[List.getElem?_cons_succ];rw[YO _ (by omega)];exact hv)).1
 clear A C N3 F3 az aw Y R F4 b1 b2 b3;go_wp2_with (first|(with_reducible refine gst 247 ?_;refine Za rfl 247 _ _ rfl w3.heap.size 0 L3.toArray rfl rfl (by simpa[l.out]using ax) (by simpa[l.out]using Y4) E.out ?_;rw[Zc,<-aj.out]));have ap:T.drew.rangeAt w3.heap.size 1 (bl (λi=>YZ e n (1+i)) 96):=g1;have H:T.drew.rangeAt nb 2 (bl F 96):=au;have ae:Hid (Cp 174 #[.agg (bl F 96).toArray,.agg (bl (λi=>YZ e n (1+i)) 96).toArray] T.drew λen w'=>en=.returned (.agg (bl (λq=>F q || YZ e n (1+q)) 96).toArray)/\Below T.drew.heap.size T.drew w'):=Xw _ _ _;refine wp_region_held_drew (S:=λw'=>w'.rangeAt w3.heap.size 1 (bl (λi=>YZ e n (1+i)) 96)) (by kernel_rfl) ap (λhHeld=>?_);clear g1 au ax l E aj ap;refine tQ 0 ?_
 refine tQ 1 ?_
 refine tQ 2 ?_
 refine tQ 3 ?_
 refine tQ 4 ?_
 refine tQ 6 ?_
 refine wpAnyH_take (i:=7) (oi:=?o7) (v:=.agg (bl (λi=>YZ e n (1+i)) 96).toArray) ?hi7 ?hs7 ?hf7 ?hr7 ?hQ7 (Or.inl ⟨?hw7,?hy7⟩) ?hS7 ?rest7
 case hi7=>simp only[gel];rfl
 case hs7=>kernel_rfl
 case hf7=>kernel_rfl
 case hr7=>kernel_rfl
 case hQ7=>exact λ_ _ _ h=>h
 case hS7=>assumption
 case hw7=>rfl
 case hy7=>exact λw' aG=>XR 132 _ rfl w3.heap.size 1 rfl (bl (λi=>YZ e n (1+i)) 96) _ aG u_a rfl (by rw[Y9];exact Y1)
 (try simp only[psm])
 refine wpAnyH_ready (rs:=[5]) (by kernel_rfl) (by simp) ?_;refine AllReadyH.cons (o:=?o5) ?hi5 (λK G=>?_) AllReadyH.nil
 case hi5=>simp only[gel];rfl
 rw[if_pos (by rfl)];unfold Oper.wp;rw[XR 132 _ rfl nb 2 rfl (bl F 96) _ H u_a rfl (by rw[Y9];exact Y1)];refine G.out _ _ hHeld (λhHeld=>?_);clear G K
 (try simp only[psm])
 refine wpAnyH_ready (rs:=[8]) (by kernel_rfl) (by simp) ?_;refine AllReadyH.cons (o:=?o8) ?hi8 (λK G=>?_) AllReadyH.nil
 case hi8=>simp only[gel];rfl
 go_simp;refine Calls.mono ae ?_;rintro en w5 ⟨rfl,an⟩;have a:Bl T w5:=(Zk _ _).drew.trans an;obtain⟨R,F4,c4⟩:=ag.out;have N5:=R.below a;have F5:=F4.trans (NF.of vh2 vb2 (by have:=R.c.lt;omega) a);have c5:=c4.block (a.block _ c4.ltB);obtain⟨z,ab,D⟩:=N5.first J 0 96 (λq=>F q || YZ e n (1+q)) (by omega);obtain⟨Z,L,o3,o4⟩:=P.out;obtain⟨Q,hQ⟩:=nam (bl (λq=>F q || YZ e n (1+q)) 96);have ao:Q.length=96:=by rw[hQ];exact Y9 _ _
 have af:Hid (Q.toArray.all (·.oneCell')=true):=by show _=true;rw[hQ];exact YL _ _
 have O:=hyd ao;rw[<-hQ]at z D ⊢;simp only[Nat.add_zero]at z ab D;have aK:=c4.ltB;have u:=c5.block (D.k w3.heap.size c5.ltB (by omega) (λx=>by have:=Z _ x;omega) (λx=>by have:=L _ x;omega));have aq:w5.rangeAt w3.heap.size 1 (bl (λi=>YZ e n (1+i)) 96):=c5.sub 1 96 (by omega);have ar:(w5.setCells nb 2 Q).rangeAt w3.heap.size 1 (bl (λi=>YZ e n (1+i)) 96):=u.sub 1 96 (by omega);have ah:=hyd3 z (F5.trans D) u;refine G.out _ _ aq (λhHeld=>?_);clear G K an a R F4 c4 N5 F5 c5 z D u Z L o3 o4 hQ ao aK ag ae H aq
 (try simp only[psm])
 refine tQ 9 ?_
 refine tQ 10 ?_
 refine tQ 11 ?_
 refine wpAnyH_ready (rs:=[12]) (by kernel_rfl) (by simp) ?_;refine AllReadyH.cons (o:=?o12) ?hi12 (λK G=>?_) AllReadyH.nil
 case hi12=>simp only[gel];rfl
 rw[if_pos (by rfl)];refine wp_store_mid 132 _ _ rfl nb 2 Q.toArray rfl rfl (by simpa[O.out]using ab) (by simpa[O.out]using Y1) af.out ?_;rw[Zc];refine G.out _ _ ar (λhHeld=>?_);clear G K;refine wpAnyH_done (by kernel_rfl) ?_ _;generalize w5.setCells nb 2 Q=W6 at *;clear ab ar hHeld af O;obtain⟨z,D,u⟩:=ah.out;have aN:(r:Int)<8:=by omega
 have f6:=z.c (2+(96+r)) (.bool (Xp F 0 96 (λq=>F q || YZ e n (1+q)) (96+r))) (by rw[show 2+(96+r)=(96+r)+1+1 by omega];simp only[List.getElem?_cons_succ];rw[YO _ (by omega)]);rw[show 2+(96+r)=98+r by omega]at f6;obtain⟨al,am⟩:=f6;have e6:W6.cell? (a_ w3.heap.size 0)=some (.bool e.nul):=(u 0 _ (YO _ (by omega))).1;have a:Bl W6 W6.drew:=(Zk _ _).drew;have N7:=(z.below a).first J (96+r) 1 (λ_=>e.nul) (by omega);obtain⟨W7,U⟩:=nam (W6.drew.setCell (a_ nb (98+r)) (.bool e.nul));have s:W6.drew.setCells nb (2+(96+r)) (bl (λ_=>e.nul) 1)=W7:=by rw[U,show 2+(96+r)=98+r by omega];rfl
 rw[s]at N7;obtain⟨N7,_,F7⟩:=N7;obtain⟨Z,L,o3,o4⟩:=P.out;have ac:=D.trans ((NF.of vh2 vb2 (by have:=z.c.lt;omega) a).trans F7);have c7:=(u.block (a.block _ u.ltB)).block (F7.k w3.heap.size (u.block (a.block _ u.ltB)).ltB (by omega) (λx=>by have:=Z _ x;omega) (λx=>by have:=L _ x;omega));have N8:YH nb base vh2 vb2 (n+e.sz) (Uy hs e n) (bhR bh e n r 0) (FR F e n r) W7:=by
  have h1:=N7.congr (hs':=Uy hs e n) (bh':=bhR bh e n r 0) (λ_ _ _ _=>rfl) (λp q _ _=>by unfold bhR;simp);refine⟨?_,h1.h,h1.b,h1.ne⟩;have hF:bl (Xp (Xp F 0 96 (λq=>F q || YZ e n (1+q))) (96+r) 1 (λ_=>e.nul)) 104=bl (FR F e n r) 104:=YU (λq hq=>by
   unfold Xp FR;by_cases h2:q<96
   ·rw[g_,p_,if_pos h2];simp only[Nat.sub_zero];unfold YZ;rw[g_,p_,show 1+q-1=q by omega]
   by_cases h3:q=96+r
   ·rw[p_,if_neg h2,if_pos h3]
   rw[g_,g_,if_neg h2,if_neg h3])
  rw[<-hF];exact h1.c
 have ai:=hyd3 N8 ac c7;have ak:=hyd U;clear z D u a N7 U s F7 Z L o3 o4 ac c7 N8 ah;go_wp2;refine wp_region_still_tail 8 (by kernel_rfl) (by kernel_rfl) ?_;simp only[ZK,List.take_zero,ZL,Zw];change wpStill _ _ W6.drew (λa'=>wpList _ _ _ _ a' W6.drew) _ _
 repeat still_step
 refine wpStill_nil ?_;have aE:=al;have aF:=am;go_wp2;have aA:(W6.setCell (a_ nb (98+r)) (.bool e.nul)).drew=W7:=by rw[ak.out];rfl
 rw[aA];clear aA
 (try simp only[Act.put])
 clear al am e6 aE aF ak
 go_loopw [7] (λx w'=>∃p:Nat,p<=n+e.sz/\x=I6 p/\YH nb base vh2 vb2 (n+e.sz) (Uy hs e n) (bhR bh e n r p) (FR F e n r) w'/\NF nb vh vb vh2 vb2 w w'/\TC w3.heap.size (bl (YZ e n) 193) w') (λx _=>n+e.sz-(intOf x).toNat)
 ·exact⟨0,by omega,rfl,ai⟩
 clear ai;obtain⟨p,hp,rfl,N,FN,c⟩:=hrel;have c1:=(N.c 1 _ rfl).1;by_cases av:p<n+e.sz
 ·obtain⟨g,d,rfl⟩:=N.b.slc (by omega);obtain⟨M,B⟩:=nam (n+e.sz);have aL:(p:Int)<M:=by omega
  have aM:(p:Int)<96:=by omega
  have cl:wr.cell? (a_ w3.heap.size (97+p))=some (.bool (e.lst n p)):=by
   have:=(c (97+p) _ (YO _ (by omega))).1;rw[this];unfold YZ;rw[g_,g_,show 97+p-97=p by omega]
  have t:∀i q,bhR bh e n r (p+1) i q=(bhR bh e n r p i q || (decide (i=p)&&decide (q=96+r)&&e.lst n p)):=λi q=>by
   unfold bhR;by_cases y:i=p
   ·subst y;simp
   by_cases e2:i<p
   ·simp[y,e2,show i<p+1 by omega]
   simp[y,e2,show ¬i<p+1 by omega]
  obtain⟨x,hx⟩:=nam (e.lst n p);rw[<-hx]at cl t;cases x
  ·have N2:YH nb base vh2 (sL g (n+e.sz) d) (n+e.sz) (Uy hs e n) (bhR bh e n r (p+1)) (FR F e n r) wr:=N.congr (λ_ _ _ _=>rfl) (λi q _ _=>by rw[t];simp);rw[<-B]at c1;have HM:=hyd B;clear t N B hx;go_wp2;go_roundw
   ·exact⟨p+1,by omega,by go_num,N2,FN,c⟩
   have:=HM.out;simp[intOf];omega
  have m:=N.b.put p (96+r) 1 (λ_=>true) av (by omega);have ay:=N.b.thereAt p (96+r) 1 av (by omega);obtain⟨aa,aB⟩:=ay 0 (by omega);rw[Nat.add_zero]at aa aB;obtain⟨v1,aJ⟩:=Zx.1 aa;have W:=Y8 g (bl (λ_=>true) 1) (p*104+(96+r)) wr;obtain⟨W8,V⟩:=nam (wr.setCell (a_ g (p*104+(96+r))) (.bool true));have s:wr.setCells g (p*104+(96+r)) (bl (λ_=>true) 1)=W8:=by rw[V];rfl
  rw[s]at m W;obtain⟨Z,L,o3,o4⟩:=P.out;have aI:=N.b.blk g rfl;have aH:=L g rfl;have X:=N.ne;have N2:YH nb base vh2 (sL g (n+e.sz) d) (n+e.sz) (Uy hs e n) (bhR bh e n r (p+1)) (FR F e n r) W8:=by
   refine⟨N.c.block (W.block _ N.c.lt (λx=>by have:=Zh x;omega)),N.h.keep (λk I=>W.block k (N.h.blk k I).2 (λx=>by have:=Zh x;subst this;exact X k I rfl)),m.congr (λi q _ hq=>?_),X⟩;rw[t];by_cases y:i=p
   ·subst y;simp only[if_true,decide_true,Bool.true_and,Bool.and_true];unfold Xp;by_cases e2:q=96+r
    ·rw[p_];simp[e2]
    rw[g_];simp[e2]
   simp[y]
  have F2:NF nb vh vb vh2 (sL g (n+e.sz) d) w W8:=FN.trans ⟨(Zk _ _).grown W (by have:=N.c.lt;omega) (λq hq=>by cases hq;omega),λk I _ _ h3=>W.block k I (λx=>h3 x.symm),λ_ h=>Or.inl h,λ_ h=>Or.inl h⟩;have c8:=c.block (W.block _ c.ltB (λx=>by have:=Zh x;omega));rw[<-B]at c1;have HM:=hyd B;have aD:=hyd V;rw[show p*104+(96+r)=p*104+96+r by omega]at aJ aB;clear t N B hx m ay aa W s Z L o3 o4 aI aH X V FN c;go_wp2
  (try simp only[Act.put])
  rw[show p*104+96+r=p*104+(96+r) by omega,<-aD.out];go_roundw
  ·exact⟨p+1,by omega,by go_num,N2,F2,c8⟩
  have:=HM.out;simp[intOf];omega
 have⟨hge,hpn⟩:¬(p:Int)<((n+e.sz:Nat):Int)/\p=n+e.sz:=by omega
 subst hpn;obtain⟨aO,d,y,_⟩:=N.b.at_;rw[XK]at y;rw[y]at c1;clear c;obtain⟨M,B⟩:=nam (n+e.sz);have HN:=hyd N;have HF:=hyd FN;rw[<-B]at c1 hge ⊢;clear N FN y B;go_wp2;go_end0;exact⟨rfl,vh2,vb2,HN,HF⟩
variable {p u:Tmp}
theorem GU {y:TypeId} (h:fn.results=#[.cell p y,.tmp u]) (tmps:Array Value) (P:Program) (w:World):
  (results fn tmps).run P w=((asAddr (tmps.getD p undef)).run P w).andThen λa w₁=>((loadVar y a).run P w₁).andThen λv w₂=>.ok (.tuple #[v,tmps.getD u undef]) w₂:=by
 simp only[results,h];simp[Sem.run_bind,Result.andThen]
theorem XO {y:TypeId}{P:Program}{ad:Addr}{b:Value} (h:fn.results=#[.cell p y,.tmp u]) (J:tmps.getD p undef=.pointer (some ad)) (H:(loadVar y ad).run P w=.ok v w) (z:tmps.getD u undef=b):
  (results fn tmps).run P w=.ok (.tuple #[v,b]) w:=by
 rw[GU h,J];subst z;simp[asAddr,H]
theorem Od {e:TypeId} (h:w.ownsRow base e size v n xs) (y:base'<=base):w.ownsRow base' e size v n xs:=
 ⟨h.1,h.2.imp id (λ⟨g,cap,d,a,b,c⟩=>⟨g,cap,d,a,ZJ y b,c⟩)⟩
def MU (vh vb:Value) (F:Nat->Bool):List Value:=vh::vb::bl F 104
theorem U8 (vh vb:Value) (F:N_):(MU vh vb F).length=106:=by simp[MU,Y9]
def XC:List Value:=MU (.slice none 0 0) (.slice none 0 0) (λ_=>false)
theorem Rq (w:World):(zeroValue 137).run Tryz.prog w=.ok (.agg XC.toArray) w:=by kernel_rfl
theorem VG:(Tryz.prog.info? 137).map (·.size)=some 106:=by kernel_rfl
theorem QZ (h1:vh.oneCell'=true) (h2:vb.oneCell'=true) (F:N_):(MU vh vb F).toArray.all (·.oneCell')=true:=by
 have:=YL F 104;simp only[MU];rw[List.all_toArray]at this ⊢;simp only[List.all_cons,h1,h2,this,Bool.and_self]
def Xn (es:Nat->Rx):Nat->Nat->Nat->Bool
 |0=>λ_ _=>false
 |k+1=>Uy (Xn es k) (es k) (Y2 es k)
def Ty (es:Nat->Rx):Nat->Nat->Nat->Bool
 |0=>λ_ _=>false
 |k+1=>bhR (Ty es k) (es k) (Y2 es k) k (Y2 es (k+1))
def X5 (es:Nat->Rx):Nat->Nat->Bool
 |0=>λ_=>false
 |k+1=>FR (X5 es k) (es k) (Y2 es k) k
theorem Ij:∀ {rs:List Pt}{y:List Tq},ps.map Pg.Pt.strip=rs->ID s ps->XU (Np s) rs y->XU Sm ps y:=by
 induction ps with
 |nil=>intro rs y h _ a;subst h;cases a;exact XU.nil
 |cons p ps ih=>
  intro rs y h c a;subst h;cases a with
  |cons h t=>
   refine XU.cons ⟨h.1,h.2.1,h.2.2.1,λb=>?_⟩ (ih rfl (λx d=>c x (by simp[d])) t);rw[c p (by simp) b];exact h.2.2.2 b
theorem CQ (v:Value) (e r a:Int) (w:World) (Y:e≠0) (hC:∀W,Bl w W->Cp 124 #[v] W λe' w'=>e'=.returned (.tuple #[I6 e,I6 r,I6 a])/\Bl W w'):
  Cp 64 #[v] w λen w'=>en=.returned (.tuple #[.agg XC.toArray,I6 e])/\Bl w w':=by
 have hz:=Rq;have F:(e==0)=false:=by simpa using Y
 have K:(e != 0)=true:=by simp[Y]
 obtain⟨W1,f⟩:=nam ((w.alloc (.cells XC.toArray 137)).alloc (.cells XC.toArray 137));have m:(w.alloc (.cells XC.toArray 137)).heap.size=w.heap.size+1:=by simp
 have C:=TC.boxed w XC 137;have o:=TC.boxed (w.alloc (.cells XC.toArray 137)) XC 137;have x1:=box_bel w (.cells XC.toArray 137);have x2:=box_bel (w.alloc (.cells XC.toArray 137)) (.cells XC.toArray 137);rw[<-f]at o x2;rw[m]at o;have p:Bl w W1:=x1.trans (x2.mono (by omega));have D:TC w.heap.size XC W1:=C.block (x2.block _ (by omega));have A:=hyd (hC W1 p);have j:=hyd f;have n:W1.heap.size=w.heap.size+2:=by rw[f];simp
 have d:Hid (W1.heap.size=w.heap.size+2):=n;have B:Hid (TC w.heap.size XC W1/\TC (w.heap.size+1) XC W1/\Bl w W1):=⟨D,o,p⟩;clear hC f m C o x1 x2 p D n Y;go_enter Tryz.func64,Tryz.ntmps64;go_wp2_with fail;rw[<-j.out];refine A.out.mono ?_;rintro en w2 ⟨rfl,b⟩;obtain⟨H,I,J⟩:=B.out;have u1:=H.block (b.block _ (by have:=d.out;omega));have u2:=I.block (b.block _ (by have:=d.out;omega));have G:=u2.range;have y:=u1.there;have E:=Y8 w.heap.size XC 0 w2;have l:=Zo w2 w.heap.size 0 XC y;have c:=ZF (P:=Tryz.prog) (w2.setCells w.heap.size 0 XC) w.heap.size 0 137 XC _ l u_o rfl VG;have z:=(J.trans (b.mono (by have:=d.out;omega))).grown E (by have:=d.out;have:=b.size;omega) (λq F=>by cases F;omega);obtain⟨u,h⟩:∃W,W=w2.setCells w.heap.size 0 XC:=⟨_,rfl⟩;rw[<-h]at c z;have k:Hid (u=w2.setCells w.heap.size 0 XC):=h;have g:Hid ((loadVar 137 (a_ w.heap.size 0)).run Tryz.prog u=.ok (.agg XC.toArray) u):=c;have i:Hid (XC.toArray.all (·.oneCell')=true):=QZ rfl rfl _;have s:Hid (XC.length=106):=U8 _ _ _;obtain⟨Z,x⟩:∃Z,Z=XC:=⟨_,rfl⟩;rw[<-x]at G y k g i s;have t:Hid (Z=XC):=x;clear H I J u1 u2 E l c h b B A j x;go_wp2_with (first|(with_reducible refine gld 137 ?_;refine Zb rfl 137 _ rfl (w.heap.size+1) 0 rfl Z _ G u_o rfl (by rw[s.out];exact VG) ?_)|(with_reducible refine gst 137 ?_;refine Za rfl 137 _ _ rfl w.heap.size 0 Z.toArray rfl rfl (by simpa using y) (by simpa[s.out]using VG) i.out ?_;rw[Zc,<-k.out]));refine Zr (v:=.tuple #[.agg Z.toArray,I6 e]) (XO Tryz.results64 rfl g.out rfl) rfl ?_;exact⟨by rw[t.out],z⟩
def Ec (es:Nat->Rx) (n:Nat) (w:World) (en:Ending) (w':World):Prop:=
 ∃vh vb,en=.returned (.tuple #[.agg (MU vh vb (X5 es n)).toArray,.int .i64 0])/\WE w.heap.size vh (Vp (Y2 es n) (Xn es n)) w'/\XV w.heap.size vb (Vp (Y2 es n) (Ty es n)) w'/\Below w.heap.size w w'
theorem Co (b aC cap n:Nat) (f:Nat->ByteArray) (w:World) (h1:1<=n) (h8:n<=8) (hb:b<w.heap.size) (hm:∀i,i<n->(f i).size<=maxLen) (hr:Sg b aC f n w) (aA:∀j,j<n->(Pg.wrong (Y7 (f j)) (f j).size).1=0) (aB:¬96<Ye (λj=>Ym (f j)) n):
  Cp 64 #[.slice (some (a_ b aC)) n cap] w (Ec (λj=>Si (f j)) n w):=by
 have hz:=Rq;obtain⟨es,r⟩:∃es:Nat->Rx,es=λj=>Si (f j):=⟨_,rfl⟩
 rw[<-r];have J:∀j,j<n->(Pg.readParts (Y7 (f j)) (f j).size).ok=true:=λj hj=>((XT (f j)).2 (aA j hj)).2.2
 have ax:=(Pl es (λj=>Ym (f j)) n (λi E=>by rw[r];exact SA (f i) (J i E)) aB).2;have HC:Hid (∀W,Bl w W->Cp 124 #[.slice (some (a_ b aC)) n cap] W λe' w'=>e'=.returned (.tuple #[I6 0,I6 0,I6 0])/\Bl W w'):=λW U=>
  PX b aC cap n f 0 0 0 W h1 h8 (by have:=U.size;omega) hm (hr.below hb U) (Or.inr ⟨aA,rfl,rfl,by rw[if_neg aB]⟩)
 have al:Hid (∀i,i<n->∀W,Cp 125 #[.string (f i)] W λen w'=>∃ad cp ps,en=.returned (.tuple #[.slice ad ps.length cp,I6 0,I6 (Pg.wrong (Y7 (f i)) (f i).size).2])/\Bl W w'/\PS ad ps w'/\ps.length<=100/\ps.length<=cp/\(∀g o x,ad=some ⟨g,o,x⟩->W.heap.size<=g/\g<w'.heap.size)/\(∀p∈ps,0<=p.mo/\p.mo<=9)/\∃F L,Pp F 2 L (es i)/\XU Sm ps L):=by
  intro i E W;refine(Qd (f i) W (hm i E)).mono ?_;rintro en w' ⟨v,ps,rfl,U,H⟩;obtain⟨hO,K,hl,ab⟩:=H (aA i E);obtain⟨L,F,_,_,q3,q4⟩:=SB (f i) (J i E);have t:∀p∈ps,0<=p.mo/\p.mo<=9:=λp hp=>by
   have:=Pg.readParts_mo (Y7 (f i)) (f i).size p.strip (by rw[<-K];exact List.mem_map.2 ⟨p,hp,rfl⟩);exact this
  rcases hO.2 with ⟨rfl,h0⟩|⟨g,cp,aw,rfl,ao,aa,ap,_⟩
  ·have ar:=List.eq_nil_of_length_eq_zero h0;subst ar;exact⟨none,0,[],by rw[aA i E];rfl,U,λk p hp=>by simp at hp,by simp,by simp,(λg o x h=>by cases h),t,F,L,by rw[r];exact q4,Ij K ab q3⟩
  refine⟨some (a_ g 0),cp,ps,by rw[aA i E],U,λk p hp=>⟨g,0,rfl,?_⟩,hl,ap,λg' o x h=>?_,t,F,L,by rw[r];exact q4,Ij K ab q3⟩
  ·have:=Vc hO k p hp;rw[Zn];exact this
  cases h;refine⟨ao,?_⟩;rcases ZD g w'.heap.size with h|h
  ·exact h
  rw[Array.getElem?_eq_none h]at aa;cases aa
 obtain⟨W1,C⟩:=nam ((w.alloc (.cells XC.toArray 137)).alloc (.cells XC.toArray 137));have af:(w.alloc (.cells XC.toArray 137)).heap.size=w.heap.size+1:=by simp
 have T1:=TC.boxed w XC 137;have T2:=TC.boxed (w.alloc (.cells XC.toArray 137)) XC 137;have x1:=box_bel w (.cells XC.toArray 137);have x2:=box_bel (w.alloc (.cells XC.toArray 137)) (.cells XC.toArray 137);rw[<-C]at T2 x2;rw[af]at T2;have B1:Bl w W1:=x1.trans (x2.mono (by omega));have U1:TC w.heap.size XC W1:=T1.block (x2.block _ (by omega));have M:=hyd (HC W1 B1);have R:=hyd C;have ah:W1.heap.size=w.heap.size+2:=by rw[C];simp
 have A:=hyd ah;have HT:=hyd3 U1 T2 B1;have Hr:=hyd hr;clear HC C af T1 T2 x1 x2 B1 U1 ah hm aA aB J hr r;go_enter Tryz.func64,Tryz.ntmps64;go_wp2_with fail;rw[<-R.out];refine M.out.mono ?_;rintro en w2 ⟨rfl,l⟩;obtain⟨t1,t2,t3⟩:=HT.out;have u1:=t1.block (l.block _ (by have:=A.out;omega));have u2:=t2.block (l.block _ (by have:=A.out;omega));have B2:Bl w w2:=t3.trans (l.mono (by have:=A.out;omega));have ai:w.heap.size+2<=w2.heap.size:=by have:=A.out;have:=l.size;omega
 have N0:YH (w.heap.size+1) (w.heap.size+2) (sN) (sN) (Y2 es 0) (Xn es 0) (Ty es 0) (X5 es 0) w2:=⟨u2,WE.nil _ _,XV.nil _ _,λk H=>by cases H⟩;have ay:(n:Int)<=8:=by omega
 clear t1 t2 t3 u2 l HT M R;go_wp2_with fail
 go_loopw [25] (λx w'=>∃(i:Nat) (vh vb:Value),x=I6 i/\i<=n/\YH (w.heap.size+1) (w.heap.size+2) vh vb (Y2 es i) (Xn es i) (Ty es i) (X5 es i) w'/\Bl w w'/\TC w.heap.size XC w'/\w.heap.size+2<=w'.heap.size) (λx _=>n-(intOf x).toNat)
 ·exact⟨0,sN,sN,rfl,by omega,N0,B2,u1,ai⟩
 clear N0 B2 u1 ai;obtain⟨i,vh,vb,rfl,E,N,B,u,hw⟩:=hrel;by_cases I:i<n
 ·have av:(i:Int)<n:=by omega
  have ci:=(Hr.out.below hb B) i I;have Q:=hyd (al i I wr);go_wp2_with fail;refine Q.out.mono ?_;rintro en w3 ⟨ad,cp,ps,rfl,m,T,hl,Y,ag,t,F,L,ac,X⟩;have N3:=N.below m;have a:=N.h.blk;have d:=N.b.blk;have az:=m.size;have aq:Y2 es i+(es i).sz<=96:=by have:=XY es (show i+1<=n from I);simp only[Y2]at this;omega
  have O:Hid (Cp 126 #[.pointer (some (a_ (w.heap.size+1) 0)),.slice ad ps.length cp,I6 i] w3 λen w'=>∃vh' vb',en=.returned (.tuple #[])/\YH (w.heap.size+1) (w.heap.size+2) vh' vb' (Y2 es i+(es i).sz) (Uy (Xn es i) (es i) (Y2 es i)) (bhR (Ty es i) (es i) (Y2 es i) i (Y2 es i+(es i).sz)) (FR (X5 es i) (es i) (Y2 es i) i) w'/\NF (w.heap.size+1) vh vb vh' vb' w3 w'):=
   Do F L (es i) ps ad cp (w.heap.size+1) (w.heap.size+2) vh vb (Y2 es i) (Xn es i) (Ty es i) (X5 es i) i w3 ac X ⟨N3,by omega,by omega,T,hl,Y,λg o x h=>by
    obtain⟨g1,g2⟩:=ag g o x h;exact⟨g2,by omega,λe=>by have:=(a g e).2;omega,λe=>by have:=(d g e).2;omega⟩⟩ aq t (by omega)
  have B3:=B.trans (m.mono B.size);have u3:=u.block (m.block _ (by omega));clear T hl Y ag t ac X N N3 a d ci Q;go_wp2_with fail;refine O.out.mono ?_;rintro en w4 ⟨vh2,vb2,rfl,N4,F4⟩;have B4:Bl w w4:=B3.trans (F4.b.mono (by omega));have u4:=u3.block (F4.b.block _ (by omega));have au:w.heap.size+2<=w4.heap.size:=by have:=F4.b.size;omega
  clear F4 B3 u3 O m;go_wp2_with fail;go_roundw
  ·exact⟨i+1,vh2,vb2,by go_num,by omega,N4,B4,u4,au⟩
  simp[intOf];omega
 have⟨hge,hin⟩:¬(i:Int)<n/\i=n:=by omega
 subst hin;have rN:=N.c.range;have tA:=u.there;obtain⟨Z,V⟩:=nam (MU vh vb (X5 es i));have D:Z.length=106:=by rw[V];exact U8 _ _ _
 rw[show(vh::vb::bl (X5 es i) 104)=Z from V.symm]at rN;have aj:XC.length=106:=U8 _ _ _;rw[aj]at tA;have hG:=Y8 w.heap.size Z 0 wr;have ae:=Zo wr w.heap.size 0 Z (by rw[D];exact tA);have s:=ZF (P:=Tryz.prog) (wr.setCells w.heap.size 0 Z) w.heap.size 0 137 Z _ ae u_o rfl (by rw[D];exact VG);have BX:=B.grown hG B.size (λq hq=>by cases hq;omega);have a:=N.h.blk;have d:=N.b.blk;have OH:=(N.h.grown hG (λk H e=>by have:=Zh e;have:=(a k H).1;omega));have OB:=(N.b.grown hG (λk H e=>by have:=Zh e;have:=(d k H).1;omega));have y:vh.oneCell'=true:=by obtain⟨a1,c1,e1,_⟩:=N.h.at_;rw[e1];rfl
 have z:vb.oneCell'=true:=by obtain⟨a1,c1,e1,_⟩:=N.b.at_;rw[e1];rfl
 have ak:Hid (Z.toArray.all (·.oneCell')=true):=by show _=true;rw[V];exact QZ y z _
 obtain⟨WX,G⟩:=nam (wr.setCells w.heap.size 0 Z);rw[<-G]at s BX OH OB;have am:=hyd G;have S:=hyd s;have HZ:=hyd D;have an:=hyd V;have HO:Hid (WE w.heap.size vh (Vp (Y2 es i) (Xn es i)) WX/\XV w.heap.size vb (Vp (Y2 es i) (Ty es i)) WX/\Bl w WX):=⟨Od OH (by omega),Od OB (by omega),BX⟩;clear N B u hG ae s a d OH OB y z G D V BX aj;go_wp2_with (first|(with_reducible refine gld 137 ?_;refine Zb rfl 137 _ rfl (w.heap.size+1) 0 rfl Z _ rN u_o rfl (by rw[HZ.out];exact VG) ?_)|(with_reducible refine gst 137 ?_;refine Za rfl 137 _ _ rfl w.heap.size 0 Z.toArray rfl rfl (by simpa[HZ.out]using tA) (by simpa[HZ.out]using VG) ak.out ?_;rw[Zc,<-am.out]));refine Zr (v:=.tuple #[.agg Z.toArray,I6 0]) (XO Tryz.results64 rfl S.out rfl) rfl ?_;exact⟨vh,vb,by rw[an.out],HO.out.1,HO.out.2.1,HO.out.2.2⟩
end Go.Proofs.YtoaaklhpmhjhkaaGreat
