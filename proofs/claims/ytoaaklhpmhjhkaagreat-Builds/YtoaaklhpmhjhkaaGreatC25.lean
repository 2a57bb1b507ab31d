import Derived.Test.YtoaaklhpmhjhkaaGreatC15
import Derived.Test.YtoaaklhpmhjhkaaGreatC21
import Derived.Test.YtoaaklhpmhjhkaaGreatC24
set_option maxRecDepth 100000
set_option maxHeartbeats 4000000
set_option linter.all false
namespace Go.Proofs.YtoaaklhpmhjhkaaGreat
open Go.RowKit
open Bm
open Pg (Pt)
theorem y3q (ps:List Pt):∀op i,rowE ps op i=rowK (ps.map λp=>p.kd) op i:=by
 induction ps with
 |nil=>intro op i;rfl
 |cons p ps ih=>intro op i;simp only[rowE,List.map_cons,rowK,ih]
theorem y3e (ps:List Pt):∀op i,atomE ps op i=atomK (ps.map λp=>p.kd) op i:=by
 induction ps with
 |nil=>intro op i;rfl
 |cons p ps ih=>intro op i;simp only[atomE,List.map_cons,atomK,ih]
variable {ps : List Pt}{B base f m m2 n nb : Nat}{F : Nat → Bool}{bh bh2 hs hs2 : Nat → Nat → Bool}{ad : Option Addr}{e : Rx}{vb vb' vb2 vh vh' vh2 : Value}{w w' w'' : World}
theorem y1m {r:List Tq}{rest:List Int} (h:Pp f 1 r e) (hk:ps.map (λp=>p.kd)=kds r++rest) (hr:rest=[]\/∃t,rest=4::t):rowE ps 0 0=r.length:=by
 rw[y3q,hk,(q8W f 1 r e h).2.1 0 0 rest (Or.inr ⟨rfl,Nat.le_refl _⟩)];rcases hr with rfl|⟨t,rfl⟩
 ·simp[rowK]
 simp[rowK]
theorem y1i (ps:List Pt) (m:Nat):∀(u i:Nat),i<=m->m<u+i->(∀j,i<=j->j<m->∃p,ps[j]?=some p/\Pg.isSuffix p.kd=true)->(∀p,ps[m]?=some p->Pg.isSuffix p.kd=false)->sufE ps u i=m:=by
 intro u
 induction u with
 |zero=>intro i g h;omega
 |succ u ih=>
  intro i g h d f;rw[sufE];by_cases e:i=m
  ·subst e;rcases c:ps[i]? with _|p
   ·rfl
   simp only[f p c];rfl
  obtain⟨p,c,hs⟩:=d i (Nat.le_refl _) (by omega);rw[c];simp only[hs,if_true];exact ih (i+1) (by omega) (by omega) (λj a b=>d j (by omega) b) f
theorem q9p {t:List Tq}{rest:List Int} (h:Pp f 0 t e) (hk:ps.map (λp=>p.kd)=kds t++rest) (hr:∀k r,rest=k::r->Pg.isSuffix k=false):pieceE ps=t.length:=by
 obtain⟨m,u,m2,o,q⟩:=(q8W f 0 t e h).2.2 rfl;have s:ps.length=t.length+rest.length:=by
  have:=congrArg List.length hk;simpa[q6q]using this
 unfold pieceE;rw[y3e,hk,o 0 rest,Nat.zero_add];have d:∀(j:Nat) (p:Pt),ps[j]?=some p->(kds t++rest)[j]?=some p.kd:=λj p g=>by rw[<-hk,List.getElem?_map,g];rfl
 refine y1i ps t.length _ m m2 (by omega) (λj a b=>?_) (λp g=>?_)
 ·have i:j<ps.length:=by omega
  refine⟨ps[j],List.getElem?_eq_getElem i,?_⟩;have c:=d j _ (List.getElem?_eq_getElem i);rw[List.getElem?_append_left (by rw[q6q];exact b)]at c;have l:t[j]∈t.drop m:=by
   rw[List.mem_iff_getElem?];exact⟨j-m,by rw[List.getElem?_drop,show m+(j-m)=j by omega];exact List.getElem?_eq_getElem b⟩
  have n:=q _ l;simp only[kds,List.getElem?_map,List.getElem?_eq_getElem b,Option.map_some,Option.some.injEq]at c;rw[<-c];unfold isSuf at n;simp only[Pg.isSuffix,Bool.or_eq_true,beq_iff_eq];omega
 have c:=d _ p g;rw[List.getElem?_append_right (by rw[q6q];omega),q6q,Nat.sub_self]at c;rcases rest with _|⟨k,r⟩
 ·cases c
 simp at c;rw[<-c];exact hr k r rfl
def runOf (e:Rx) (n:Nat):Nat->Bool:=λi=>if i=0 then e.nul else if i<97 then e.fst n (i-1) else e.lst n (i-97)
def hsL (hs:Nat->Nat->Bool) (e:Rx) (n:Nat):Nat->Nat->Bool:=λp b=>if p<n then hs p b else e.has n p b
def bhL (bh:Nat->Nat->Bool) (e:Rx) (n:Nat):Nat->Nat->Bool:=λp q=>if p<n then bh p q else e.fol n p q
theorem y3B (a b:Rx) (n i:Nat) (hi:i<193):jn (runOf a n) (runOf b (n+a.sz)) i=runOf (.cat a b) n i:=by
 unfold jn runOf;by_cases c:i=0
 ·subst c;simp[Rx.nul]
 by_cases d:i<97
 ·simp[c,d,Rx.fst]
 simp[c,d,Rx.lst]
theorem y2L (bh:Nat->Nat->Bool) (a b:Rx) (n p q:Nat) (hn:n+a.sz+b.sz<=96) (hp:p<n+a.sz+b.sz):
  lnk (bhL (bhL bh a n) b (n+a.sz)) (λp=>runOf a n (97+p)) (λq=>runOf b (n+a.sz) (1+q)) (n+a.sz+b.sz) p q=bhL bh (.cat a b) n p q:=by
 unfold lnk bhL runOf;simp only[hp,decide_true,Bool.true_and,show ∀x:Nat,¬(97+x=0) from λx=>by omega,show ∀x:Nat,¬(97+x<97) from λx=>by omega,show ∀x:Nat,¬(1+x=0) from λx=>by omega,if_false,Nat.add_sub_cancel_left];have f:(decide (q<96)&&(if 1+q<97 then b.fst (n+a.sz) q else b.lst (n+a.sz) (1+q-97)))=b.fst (n+a.sz) q:=by
  by_cases h:q<96
  ·simp[h,show 1+q<97 by omega]
  simp only[h,decide_false,Bool.false_and];exact(Rx.fst_lt (Or.inr (by omega))).symm
 rw[Bool.and_assoc,f];by_cases c:p<n
 ·rw[if_pos (by omega),if_pos c,if_pos c,Rx.lst_lt (Or.inl c)];simp
 by_cases d:p<n+a.sz
 ·rw[if_pos d,if_neg c,if_neg c];simp only[Rx.fol];rw[Rx.fol_lt (e:=b) (Or.inl d)];simp
 rw[if_neg d,if_neg c,Rx.lst_lt (Or.inr (by omega))];simp only[Rx.fol];rw[Rx.fol_lt (e:=a) (Or.inr (Or.inl (by omega))),Rx.lst_lt (e:=a) (Or.inr (by omega))];simp
theorem y0F (hs:Nat->Nat->Bool) (a b:Rx) (n p c:Nat):hsL (hsL hs a n) b (n+a.sz) p c=hsL hs (.cat a b) n p c:=by
 unfold hsL;by_cases d:p<n
 ·rw[if_pos (by omega),if_pos d,if_pos d]
 by_cases f:p<n+a.sz
 ·rw[if_pos f,if_neg d,if_neg d];simp only[Rx.has];rw[Rx.has_lt (e:=b) (Or.inl f),Bool.or_false]
 rw[if_neg f,if_neg d];simp only[Rx.has];rw[Rx.has_lt (e:=a) (Or.inr (by omega)),Bool.false_or]
theorem y0d (a b:Rx) (n i:Nat):(runOf a n i || runOf b (n+a.sz) i)=runOf (.alt a b) n i:=by
 unfold runOf;by_cases c:i=0
 ·subst c;simp[Rx.nul]
 by_cases d:i<97
 ·simp[c,d,Rx.fst]
 simp[c,d,Rx.lst]
theorem y3d (bh:Nat->Nat->Bool) (a b:Rx) (n p q:Nat):bhL (bhL bh a n) b (n+a.sz) p q=bhL bh (.alt a b) n p q:=by
 unfold bhL;by_cases c:p<n
 ·rw[if_pos (by omega),if_pos c,if_pos c]
 by_cases d:p<n+a.sz
 ·rw[if_pos d,if_neg c,if_neg c];simp only[Rx.fol];rw[Rx.fol_lt (e:=b) (Or.inl d),Bool.or_false]
 rw[if_neg d,if_neg c];simp only[Rx.fol];rw[Rx.fol_lt (e:=a) (Or.inr (Or.inl (by omega))),Bool.false_or]
theorem y2Q (hs:Nat->Nat->Bool) (a b:Rx) (n p c:Nat):hsL (hsL hs a n) b (n+a.sz) p c=hsL hs (.alt a b) n p c:=y0F hs a b n p c
theorem q8L (bh:Nat->Nat->Bool) (a:Rx) (n p q:Nat) (hn:n+a.sz<=96) (hp:p<n+a.sz):
  lnk (bhL bh a n) (λp=>runOf a n (97+p)) (λq=>runOf a n (1+q)) (n+a.sz) p q=bhL bh (.star a) n p q:=by
 unfold lnk bhL runOf;simp only[hp,decide_true,Bool.true_and,show ∀x:Nat,¬(97+x=0) from λx=>by omega,show ∀x:Nat,¬(97+x<97) from λx=>by omega,show ∀x:Nat,¬(1+x=0) from λx=>by omega,if_false,Nat.add_sub_cancel_left];have c:(decide (q<96)&&(if 1+q<97 then a.fst n q else a.lst n (1+q-97)))=a.fst n q:=by
  by_cases h:q<96
  ·simp[h,show 1+q<97 by omega]
  simp only[h,decide_false,Bool.false_and];exact(Rx.fst_lt (Or.inr (by omega))).symm
 rw[Bool.and_assoc,c];by_cases b:p<n
 ·rw[if_pos b,if_pos b,Rx.lst_lt (Or.inl b)];simp
 rw[if_neg b,if_neg b];rfl
def Sep (ad:Option Addr) (nb:Nat) (vh vb:Value) (w:World):Prop:=∀g o i,ad=some ⟨g,o,i⟩->g<w.heap.size/\g≠nb/\vh.ownBlock≠some g/\vb.ownBlock≠some g
theorem Sep.nf (h:Sep ad nb vh vb w) (f:NF nb vh vb vh' vb' w w'):Sep ad nb vh' vb' w':=λg o i e=>by
 obtain⟨j,a,c,d⟩:=h g o i e;have hs:=f.b.size;refine⟨by omega,a,λx=>?_,λx=>?_⟩
 ·rcases f.oh g x with h|h
  ·exact c h
  omega
 rcases f.ob g x with h|h
 ·exact d h
 omega
theorem Sep.sub (h:Sep ad nb vh vb w) (cap l:Nat):Sep (slA ad cap l) nb vh vb w:=λg o i e=>by
 unfold slA at e;split at e
 ·exact h g o i e
 rcases ad with _|⟨a,c,b⟩
 ·cases e
 simp only[Option.map_some,Option.some.injEq]at e;have:(Addr.add ⟨a,c,b⟩ (l*261)).block=a:=by unfold Addr.add;split<;>rfl
 rw[e]at this;simp only at this;subst this;exact h g c b rfl
theorem PS.nf (h:PS ad ps w) (s:Sep ad nb vh vb w) (f:NF nb vh vb vh' vb' w w'):PS ad ps w':=h.keep (λg o e=>by
 obtain⟨a,b,c,d⟩:=s g o none e;exact f.k g a b c d)
structure LayPre (nb base:Nat) (vh vb:Value) (n:Nat) (hs bh:Nat->Nat->Bool) (F:Nat->Bool) (ad:Option Addr) (cap:Nat) (ps:List Pt) (w:World):Prop where
 net:NetIn nb base vh vb n hs bh F w
 lnb:nb<base
 bw:base<=w.heap.size
 prt:PS ad ps w
 len:ps.length<=100
 lcap:ps.length<=cap
 sep:Sep ad nb vh vb w
def LayPost (nb base:Nat) (vh vb:Value) (n:Nat) (hs bh:Nat->Nat->Bool) (F:Nat->Bool) (e:Rx) (w:World) (en:Ending) (w':World):Prop:=
 ∃vh' vb',en=.returned (.agg (bl (runOf e n) 193).toArray)/\NetIn nb base vh' vb' (n+e.sz) (hsL hs e n) (bhL bh e n) F w'/\NF nb vh vb vh' vb' w w'
def LayC (fn:Nat) (k f:Nat):Prop:=∀(ts:List Tq) (e:Rx) (ps:List Pt) (ad:Option Addr) (cap nb base:Nat) (vh vb:Value) (n:Nat) (hs bh:Nat->Nat->Bool) (F:Nat->Bool) (w:World),Pp f k ts e->Both Sm ps ts->LayPre nb base vh vb n hs bh F ad cap ps w->n+e.sz<=96->(∀p∈ps,0<=p.mo/\p.mo<=9) ->
 Calls Tryz.prog fn #[.pointer (some ⟨nb,0,none⟩),.slice ad ps.length cap] w (LayPost nb base vh vb n hs bh F e w)
theorem q4u (n i:Nat) (hi:i<193):runOf .eps n i=rnNo i:=by
 unfold runOf rnNo;by_cases a:i=0
 ·subst a;rfl
 simp[a,Rx.fst,Rx.lst]
theorem netEps (h:NetIn nb base vh vb n hs bh F w):NetIn nb base vh vb (n+Rx.eps.sz) (hsL hs .eps n) (bhL bh .eps n) F w:=
 NetIn.congr (show NetIn nb base vh vb (n+0) hs bh F w from h) (λp q a _=>by unfold hsL;rw[if_pos (by simpa[Rx.sz]using a)]) (λp q a _=>by unfold bhL;rw[if_pos (by simpa[Rx.sz]using a)])
structure RW (nb base:Nat) (vh vb vh' vb':Value) (n:Nat) (hs bh:Nat->Nat->Bool) (F:Nat->Bool) (E:Rx) (w w':World) (A B:Nat):Prop where
 net:NetIn nb base vh' vb' (n+E.sz) (hsL hs E n) (bhL bh E n) F w'
 nf:NF nb vh vb vh' vb' w w'
 a:TC A (bl (fun _=>false) 193) w'
 b:TC B (bl (runOf E n) 193) w'
 o1:∀k,vh'.ownBlock=some k->k<A\/B<k
 o2:∀k,vb'.ownBlock=some k->k<A\/B<k
structure RC (nb base:Nat) (w:World) (A B:Nat):Prop where
 g1:nb<A
 g2:A<B
 g4:A=w.heap.size
 g7:nb<base
 g8:base<=w.heap.size
theorem RW.call {E:Rx}{A:Nat} (h:RW nb base vh vb vh' vb' n hs bh F E w w' A B) (c:RC nb base w A B) (hF:NF nb vh' vb' vh2 vb2 w' w''):
  TC A (bl (λ_=>false) 193) w''/\TC B (bl (runOf E n) 193) w''/\NF nb vh vb vh2 vb2 w w''/\(∀k,vh2.ownBlock=some k->k<A\/B<k)/\(∀k,vb2.ownBlock=some k->k<A\/B<k):=by
 have f:=c.g1;have g:=c.g2;have i:=h.b.ltB;refine⟨h.a.block (hF.k A (by omega) (by omega) (λe=>by have:=h.o1 A e;omega) (λe=>by have:=h.o2 A e;omega)),h.b.block (hF.k B (by omega) (by omega) (λe=>by have:=h.o1 B e;omega) (λe=>by have:=h.o2 B e;omega)),h.nf.trans hF,λk d=>?_,λk d=>?_⟩
 ·rcases hF.oh k d with e|e
  ·exact h.o1 k e
  exact Or.inr (by omega)
 rcases hF.ob k d with e|e
 ·exact h.o2 k e
 exact Or.inr (by omega)
theorem q2v (w:World) (f:Nat->Bool):TC w.heap.size (bl f 193) ((w.alloc (.cells (bl (λ_=>false) 193).toArray 247)).setCells w.heap.size 0 (bl f 193))/\Below w.heap.size w ((w.alloc (.cells (bl (λ_=>false) 193).toArray 247)).setCells w.heap.size 0 (bl f 193))/\((w.alloc (.cells (bl (λ_=>false) 193).toArray 247)).setCells w.heap.size 0 (bl f 193)).heap.size=w.heap.size+1:=by
 have T:=TC.boxed w (bl (λ_=>false) 193) 247;have x:=box_bel w (.cells (bl (λ_=>false) 193).toArray 247);have a:=q0e w.heap.size (bl f 193) 0 (w.alloc (.cells (bl (λ_=>false) 193).toArray 247));refine⟨?_,x.grown a x.size (λq b=>by cases b;omega),by rw[q2n];simp⟩;have:=T.setPart 0 193 f (by omega);rw[q0o (g:=f) (λi c=>by unfold over;rw[if_pos (by omega)];rfl)]at this;exact this
variable {e2 : Rx}
theorem RW.step {E:Rx}{W5 w6:World}{A:Nat} (c:RC nb base w A B) (hA:TC A (bl (λ_=>false) 193) W5) (hB:TC B (bl (runOf E n) 193) W5) (hf:NF nb vh vb vh2 vb2 w W5) (o1:∀k,vh2.ownBlock=some k->k<A\/B<k) (o2:∀k,vb2.ownBlock=some k->k<A\/B<k)
  (h6N:NetIn nb base vh2 vb2 (n+E.sz+e2.sz) (hsL (hsL hs E n) e2 (n+E.sz)) (lnk (bhL (bhL bh E n) e2 (n+E.sz)) (λp=>runOf E n (97+p)) (λq=>runOf e2 (n+E.sz) (1+q)) (n+E.sz+e2.sz)) F w6) (h6F:NF nb vh2 vb2 vh2 vb2 W5 w6) (hn:n+E.sz+e2.sz<=96):
  w6.there B 0 193/\RW nb base vh vb vh2 vb2 n hs bh F (.cat E e2) w (w6.setCells B 0 (bl (jn (runOf E n) (runOf e2 (n+E.sz))) 193)) A B:=by
 have o:=c.g1;have r:=c.g2;have s:=c.g4;have j:=hB.ltB;have d:=hA.block (h6F.k A (by omega) (by omega) (λe=>by have:=o1 A e;omega) (λe=>by have:=o2 A e;omega));have TB:=hB.block (h6F.k B (by omega) (by omega) (λe=>by have:=o1 B e;omega) (λe=>by have:=o2 B e;omega));have a:=q0e B (bl (jn (runOf E n) (runOf e2 (n+E.sz))) 193) 0 w6;refine⟨q0I TB,?_⟩;have h:=h6N.mine a (by omega) (λe=>by have:=o1 B e;omega) (λe=>by have:=o2 B e;omega);have f:=(hf.trans h6F).mine a (by omega) (by omega);have b:(Rx.cat E e2).sz=E.sz+e2.sz:=rfl;refine⟨?_,f,d.block (a.block A d.ltB (λe=>by have:=Option.some.inj e;omega)),?_,o1,o2⟩
 ·rw[b,<-Nat.add_assoc];exact h.congr (λp q _ _=>y0F hs E e2 n p q) (λp q m _=>y2L bh E e2 n p q hn m)
 have:=TB.setPart 0 193 (jn (runOf E n) (runOf e2 (n+E.sz))) (by omega);rw[q0o (g:=runOf (.cat E e2) n) (λi l=>by unfold over;rw[if_pos (by omega)];exact y3B E e2 n i l)]at this;exact this
theorem q9I (f:Nat) (hP:LayC 210 0 f) (ts:List Tq) (e:Rx) (ps:List Pt) (ad:Option Addr) (cap nb base:Nat) (vh vb:Value) (n:Nat) (hs bh:Nat->Nat->Bool) (F:Nat->Bool) (le mo:Nat) (w:World) (hp:Pp f 0 ts e) (hb:Both Sm ps ts) (hpre:LayPre nb base vh vb n hs bh F ad cap ps w) (hn:n+mo*e.sz<=96) (hmo:∀p∈ps,0<=p.mo/\p.mo<=9) (hm9:mo<=9) (hl9:le<=9):
  Calls Tryz.prog 220 #[.pointer (some ⟨nb,0,none⟩),.slice ad ps.length cap,.int .i64 le,.int .i64 mo] w (LayPost nb base vh vb n hs bh F (Rx.rowOf (Rx.copies e le mo)) w):=by
 have hz:=q1C;have aO:=hpre.net.c.lt;obtain⟨A,hA⟩:=nam w.heap.size;obtain⟨W1,ac⟩:=nam (w.alloc (.cells (bl (λ_=>false) 193).toArray 247));have T1:=TC.boxed w (bl (λ_=>false) 193) 247;have x1:=box_bel w (.cells (bl (λ_=>false) 193).toArray 247);rw[<-ac]at T1 x1;rw[<-hA]at T1;have HA:=hyd hA;have Z:=hyd ac;have HP:=hyd hP;have Hp:=hyd hp;have Hb:=hyd hb;have o:=hyd hpre;have aH:=hyd hmo;have aI:=hyd2 x1 T1;have Hn:=hyd hn;clear hP hp hb hpre hmo hA ac T1 x1 hn;go_enter Tryz.func220,Tryz.ntmps220;go_wp2_with fail;rw[<-Z.out];refine Calls.mono (q2U W1) ?_;rintro en w1 ⟨rfl,G⟩;obtain⟨t,q,b3⟩:=q2v w1 rnNo;have aA:(w1.alloc (.cells (bl (λ_=>false) 193).toArray 247)).there w1.heap.size 0 193:=q0I (TC.boxed w1 _ _);obtain⟨B,hB⟩:=nam w1.heap.size;obtain⟨L0,K⟩:=nam (bl rnNo 193);obtain⟨W2,N⟩:=nam ((w1.alloc (.cells (bl (λ_=>false) 193).toArray 247)).setCells w1.heap.size 0 (bl rnNo 193));rw[<-N]at t q b3;rw[<-K]at N ⊢;have V:Hid (L0.length=193):=by show _=_;rw[K];exact q0c _ _
 have ak:Hid (L0.toArray.all (·.oneCell')=true):=by show _=true;rw[K];exact q0w _ _
 have am:=hyd N;obtain⟨y1,y2⟩:=aI.out;have az:=HA.out;have aL:=G.size;have av:W1.heap.size=A+1:=by rw[Z.out,HA.out];simp
 have C:RC nb base w A B:=⟨by omega,by omega,az,o.out.lnb,o.out.bw⟩;have S0:RW nb base vh vb vh vb n hs bh F (Rx.rowOf (Rx.copies e le 0)) w W2 A B:=by
  have P:=o.out;have hN:=((P.net.below y1).below G).below q;have h1:=P.net.h.blk;have h2:=P.net.b.blk;refine⟨netEps hN,((NF.of vh vb (by omega) y1).trans (NF.of vh vb (by omega) G)).trans (NF.of vh vb (by omega) q),(y2.block (G.block _ y2.ltB)).block (q.block A (by omega)),?_,λk hk=>Or.inl (by have:=(h1 k hk).2;omega),λk hk=>Or.inl (by have:=(h2 k hk).2;omega)⟩;rw[<-hB]at t;show TC B (bl (runOf Rx.eps n) 193) W2;rw[q0o (g:=rnNo) (λi hi=>q4u n i hi)];exact t
 have I:=hyd C;have HB:=hyd hB;have aN:(mo:Int)<=9:=by omega
 clear t q b3 hB K N y1 y2 az aL av C Z G;go_wp2_with (first|(with_reducible refine gst 247 ?_;refine wpList_store_mid rfl 247 _ _ rfl w1.heap.size 0 L0.toArray rfl rfl (by simpa[V.out]using aA) (by simpa[V.out]using q0h) ak.out ?_;rw[List.toList_toArray,<-am.out]));rw[<-HB.out,<-HA.out];clear V ak am aA
 go_loopw [10] (λx w'=>∃(i:Nat) (vh' vb':Value),x=.int .i64 i/\i<=mo/\RW nb base vh vb vh' vb' n hs bh F (Rx.rowOf (Rx.copies e le i)) w w' A B) (λx _=>mo-(intOf x).toNat)
 ·exact⟨0,vh,vb,rfl,by omega,S0⟩
 clear S0;obtain⟨i,vh',vb',rfl,hi,S⟩:=hrel;by_cases aK:i<mo
 ·have aM:(i:Int)<mo:=by omega
  obtain⟨E,hE⟩:=nam (Rx.rowOf (Rx.copies e le i));rw[<-hE]at S;have ar:E.sz=i*e.sz:=by rw[hE];exact Rx.copies_sz e le i
  have Q:(i+1)*e.sz<=mo*e.sz:=Nat.mul_le_mul_right _ aK;rw[Nat.add_mul,Nat.one_mul,<-ar]at Q;have l:n+E.sz+e.sz<=96:=by have:=Hn.out;omega
  have HE:Hid (Rx.rowOf (Rx.copies e le (i+1))=.cat E (if i<le then e else .opt e)):=by show _=_;rw[Rx.copies_succ,Rx.rowOf_snoc,<-hE]
  clear hE ar Q;have P:=o.out;have H:LayPre nb base vh' vb' (n+E.sz) (hsL hs E n) (bhL bh E n) F ad cap ps wr:=⟨S.net,P.lnb,by have:=S.nf.b.size;have:=P.bw;omega,P.prt.nf P.sep S.nf,P.len,P.lcap,P.sep.nf S.nf⟩;have aj:=HP.out ts e ps ad cap nb base vh' vb' (n+E.sz) (hsL hs E n) (bhL bh E n) F wr Hp.out Hb.out H l aH.out;have aD:Hid (Calls Tryz.prog 210 #[.pointer (some ⟨nb,0,none⟩),.slice ad ps.length cap] wr (LayPost nb base vh' vb' (n+E.sz) (hsL hs E n) (bhL bh E n) F e wr)):=aj;clear aj H P;go_wp2_with fail;refine aD.out.mono ?_;rintro en m ⟨vh2,vb2,rfl,N3,F3⟩;obtain⟨TA,TB,aa,o1,o2⟩:=S.call I.out F3;obtain⟨t,q,b3⟩:=q2v m (runOf e (n+E.sz));have aB:(m.alloc (.cells (bl (λ_=>false) 193).toArray 247)).there m.heap.size 0 193:=q0I (TC.boxed m _ _);obtain⟨L3,L⟩:=nam (bl (runOf e (n+E.sz)) 193);obtain⟨W4,O⟩:=nam ((m.alloc (.cells (bl (λ_=>false) 193).toArray 247)).setCells m.heap.size 0 (bl (runOf e (n+E.sz)) 193));rw[<-O]at t q b3;rw[<-L]at O ⊢;have J:Hid (L3.length=193):=by show _=_;rw[L];exact q0c _ _
  have al:Hid (L3.toArray.all (·.oneCell')=true):=by show _=true;rw[L];exact q0w _ _
  have an:=hyd O;have T:=N3.c.lt;have UA:=TA.block (q.block A TA.ltB);have UB:=TB.block (q.block B TB.ltB);have aq:=TB.ltB;have N4:=N3.below q;have F4:=aa.trans (NF.of vh2 vb2 (by omega) q);have aC:=aa.b.size;have ag:=N3.h.blk;have ah:=N3.b.blk;have ap:=I.out.g2;obtain⟨c1,aJ⟩:=t 0 _ (q0x _ (by omega));clear L O TA TB N3 aa S F3;have ai:∀u,Below m.heap.size m W4->W4.grownBy (W4.setCell ⟨m.heap.size,0,none⟩ u) (some m.heap.size):=λu _=>q0e m.heap.size [u] 0 W4
  by_cases aw:i<le
  ·have ax:¬((le:Int)<=i):=by omega
   rw[if_pos aw]at HE;have U:=hyd (q3N nb base vh2 vb2 (n+E.sz+e.sz) _ _ F (runOf E n) (runOf e (n+E.sz)) W4 N4 I.out.g7 l);have Y:=hyd3 UA UB F4;have rB:=UB.range;have rC:=t.range;have Ho:=hyd2 o1 o2;clear UA UB N4 F4 t q b3 aq aC ag ah ap ai o1 o2 T c1 aJ;go_wp2_with (first|(with_reducible refine gst 247 ?_;refine wpList_store_mid rfl 247 _ _ rfl m.heap.size 0 L3.toArray rfl rfl (by simpa[J.out]using aB) (by simpa[J.out]using q0h) al.out ?_;rw[List.toList_toArray,<-an.out])|(with_reducible refine gld 247 ?_;refine wpList_load_mid rfl 247 _ rfl B 0 rfl (bl (runOf E n) 193) _ rB Tryz.underlying247 rfl (by rw[q0c];exact q0h) ?_)|(with_reducible refine gld 247 ?_;refine wpList_load_mid rfl 247 _ rfl m.heap.size 0 rfl (bl (runOf e (n+E.sz)) 193) _ rC Tryz.underlying247 rfl (by rw[q0c];exact q0h) ?_));refine U.out.mono ?_;rintro en w6 ⟨rfl,N6,F6⟩;obtain⟨y,z,D⟩:=Y.out;obtain⟨tB,R⟩:=RW.step (e2:=e) I.out y z D Ho.out.1 Ho.out.2 N6 F6 l;rw[<-HE.out]at R;obtain⟨L6,d⟩:=nam (bl (jn (runOf E n) (runOf e (n+E.sz))) 193);rw[<-d]at R ⊢;have s:Hid (L6.length=193):=by show _=_;rw[d];exact q0c _ _
   have X:Hid (L6.toArray.all (·.oneCell')=true):=by show _=true;rw[d];exact q0w _ _
   clear d N6 F6 y z D rB rC;go_wp2_with (first|(with_reducible refine gst 247 ?_;refine wpList_store_mid rfl 247 _ _ rfl B 0 L6.toArray rfl rfl (by simpa[s.out]using tB) (by simpa[s.out]using q0h) X.out ?_;rw[List.toList_toArray]));go_roundw
   ·exact⟨i+1,vh2,vb2,by go_num,by omega,R⟩
   simp[intOf];omega
  have ax:(le:Int)<=i:=by omega
  rw[if_neg aw]at HE;have b5:=t.set 0 (by rw[q0c];omega) (.bool true);rw[q2O,q0o (g:=runOf (.opt e) (n+E.sz)) (λj _=>by
   unfold runOf;by_cases h0:j=0
   ·simp[h0,Rx.nul]
   simp[h0,Rx.fst,Rx.lst])]at b5
  have g5:=ai (.bool true) q;obtain⟨W5,ae⟩:=nam (W4.setCell ⟨m.heap.size,0,none⟩ (.bool true));rw[<-ae]at b5 g5;have aF:=hyd ae;have VA:=UA.block (g5.block A UA.ltB (λx=>by have:=Option.some.inj x;omega));have VB:=UB.block (g5.block B UB.ltB (λx=>by have:=Option.some.inj x;omega));have N5:=N4.mine g5 (by omega) (λx=>by have:=(ag _ x).2;omega) (λx=>by have:=(ah _ x).2;omega);have F5:=F4.mine g5 (by omega) (by omega);clear ae g5;have U:=hyd (q3N nb base vh2 vb2 (n+E.sz+e.sz) _ _ F (runOf E n) (runOf (.opt e) (n+E.sz)) W5 N5 I.out.g7 l);have Y:=hyd3 VA VB F5;have rB:=VB.range;have rC:=b5.range;have Ho:=hyd2 o1 o2;clear UA UB N4 F4 VA VB N5 F5 t q b3 b5 aq aC ag ah ap ai o1 o2 T;go_wp2_with (first|(with_reducible refine gst 247 ?_;refine wpList_store_mid rfl 247 _ _ rfl m.heap.size 0 L3.toArray rfl rfl (by simpa[J.out]using aB) (by simpa[J.out]using q0h) al.out ?_;rw[List.toList_toArray,<-an.out])|(with_reducible refine gld 247 ?_;rw[<-aF.out];refine wpList_load_mid rfl 247 _ rfl B 0 rfl (bl (runOf E n) 193) _ rB Tryz.underlying247 rfl (by rw[q0c];exact q0h) ?_)|(with_reducible refine gld 247 ?_;refine wpList_load_mid rfl 247 _ rfl m.heap.size 0 rfl (bl (runOf (.opt e) (n+E.sz)) 193) _ rC Tryz.underlying247 rfl (by rw[q0c];exact q0h) ?_));refine U.out.mono ?_;rintro en w6 ⟨rfl,N6,F6⟩;obtain⟨y,z,D⟩:=Y.out;obtain⟨tB,R⟩:=RW.step (e2:=.opt e) I.out y z D Ho.out.1 Ho.out.2 N6 F6 l;rw[<-HE.out]at R;obtain⟨L6,d⟩:=nam (bl (jn (runOf E n) (runOf (.opt e) (n+E.sz))) 193);rw[<-d]at R ⊢;have s:Hid (L6.length=193):=by show _=_;rw[d];exact q0c _ _
  have X:Hid (L6.toArray.all (·.oneCell')=true):=by show _=true;rw[d];exact q0w _ _
  clear d N6 F6 y z D rB rC;go_wp2_with (first|(with_reducible refine gst 247 ?_;refine wpList_store_mid rfl 247 _ _ rfl B 0 L6.toArray rfl rfl (by simpa[s.out]using tB) (by simpa[s.out]using q0h) X.out ?_;rw[List.toList_toArray]));go_roundw
  ·exact⟨i+1,vh2,vb2,by go_num,by omega,R⟩
  simp[intOf];omega
 have⟨hge,him⟩:¬(i:Int)<mo/\i=mo:=by omega
 subst him;have ay:=S.b.range;have tA:=q0I S.a;obtain⟨M,hM⟩:=nam (bl (runOf (Rx.rowOf (Rx.copies e le i)) n) 193);rw[<-hM]at ay;have au:M.length=193:=by rw[hM];exact q0c _ _
 have ab:=q0e A M 0 wr;have r:=q5U S.a (runOf (Rx.rowOf (Rx.copies e le i)) n);rw[<-hM]at r;have a1:=I.out.g1;have a2:=I.out.g2;have a4:=I.out.g4;have NX:=S.net.mine ab (by omega) (λx=>by have:=S.o1 A x;omega) (λx=>by have:=S.o2 A x;omega);have FX:=S.nf.mine ab (by omega) (by omega);obtain⟨WX,af⟩:=nam (wr.setCells A 0 M);rw[<-af]at r NX FX;have aG:=hyd af;have ao:=hyd r;have W:=hyd au;have aE:Hid (M.toArray.all (·.oneCell')=true):=by show _=true;rw[hM];exact q0w _ _
 have HM:=hyd hM;clear hM au ab r af a1 a2 a4 S;go_wp2_with (first|(with_reducible refine gld 247 ?_;refine wpList_load_mid rfl 247 _ rfl B 0 rfl M _ ay Tryz.underlying247 rfl (by rw[W.out];exact q0h) ?_)|(with_reducible refine gst 247 ?_;refine wpList_store_mid rfl 247 _ _ rfl A 0 M.toArray rfl rfl (by simpa[W.out]using tA) (by simpa[W.out]using q0h) aE.out ?_;rw[List.toList_toArray,<-aG.out]));refine bodyPost_ret (v:=.agg M.toArray) (res_load1 Tryz.results220 rfl ao.out) rfl ?_;exact⟨vh',vb',by rw[HM.out],NX,FX⟩
def lenV:Value->Nat
 |.slice _ n _=>n
 |_=>0
variable {ts : List Tq}
theorem q3K (h:Pp f 0 ts e):∃q r,ts=q::r/\(q.t.kd=1\/q.t.kd=2):=by
 obtain⟨_,F,a,_,_⟩:=q3E f 0 ts e h;exact(a rfl).2
theorem y1l {L:List (List Tq × Rx)} (h:∀x∈L,Pp f 0 x.1 x.2):∀k r,kds (L.map (·.1)).flatten=k::r->Pg.isSuffix k=false:=by
 intro k r a;rcases L with _|⟨x,L⟩
 ·simp[kds]at a
 obtain⟨q,c,b,e2⟩:=q3K (h x (by simp));rw[List.map_cons,List.flatten_cons,q2e,b]at a;simp[kds]at a;rw[<-a.1];rcases e2 with e2|e2<;>(rw[e2];rfl)
theorem y3p (f:Nat) (hP:LayC 210 0 f) (L:List (List Tq × Rx)) (ps:List Pt) (ad:Option Addr) (cap nb base:Nat) (vh vb:Value) (n:Nat) (hs bh:Nat->Nat->Bool) (F:Nat->Bool) (w:World) (hL:∀x∈L,Pp f 0 x.1 x.2) (hb:Both Sm ps (L.map (·.1)).flatten) (hpre:LayPre nb base vh vb n hs bh F ad cap ps w) (hn:n+(Rx.rowOf (L.map (·.2))).sz<=96) (hmo:∀p∈ps,0<=p.mo/\p.mo<=9):
  Calls Tryz.prog 199 #[.pointer (some ⟨nb,0,none⟩),.slice ad ps.length cap] w (LayPost nb base vh vb n hs bh F (Rx.rowOf (L.map (·.2))) w):=by
 have hz:=q1C;have aY:=hpre.net.c.lt;obtain⟨A,hA⟩:=nam w.heap.size;obtain⟨W1,ah⟩:=nam (w.alloc (.cells (bl (λ_=>false) 193).toArray 247));have T1:=TC.boxed w (bl (λ_=>false) 193) 247;have x1:=box_bel w (.cells (bl (λ_=>false) 193).toArray 247);rw[<-ah]at T1 x1;rw[<-hA]at T1;have HA:=hyd hA;have ac:=hyd ah;have HP:=hyd hP;have Hb:=hyd hb;have m:=hyd hpre;have D:=hyd hmo;have aR:=hyd2 x1 T1;have Hn:=hyd hn;have HL:=hyd hL;clear hP hL hb hpre hmo hA ah T1 x1 hn;go_enter Tryz.func199,Tryz.ntmps199;go_wp2_with fail;rw[<-ac.out];refine Calls.mono (q2U W1) ?_;rintro en w1 ⟨rfl,s⟩;obtain⟨X,z,b3⟩:=q2v w1 rnNo;have aI:(w1.alloc (.cells (bl (λ_=>false) 193).toArray 247)).there w1.heap.size 0 193:=q0I (TC.boxed w1 _ _);obtain⟨B,hB⟩:=nam w1.heap.size;obtain⟨L0,J⟩:=nam (bl rnNo 193);obtain⟨W2,O⟩:=nam ((w1.alloc (.cells (bl (λ_=>false) 193).toArray 247)).setCells w1.heap.size 0 (bl rnNo 193));rw[<-O]at X z b3;rw[<-J]at O ⊢;have aa:Hid (L0.length=193):=by show _=_;rw[J];exact q0c _ _
 have ao:Hid (L0.toArray.all (·.oneCell')=true):=by show _=true;rw[J];exact q0w _ _
 have ap:=hyd O;obtain⟨y1,y2⟩:=aR.out;have aH:=HA.out;have aV:=y1.size;have aW:=s.size;have aA:W1.heap.size=A+1:=by rw[ac.out,HA.out];simp
 have C:RC nb base w A B:=⟨by omega,by omega,aH,m.out.lnb,m.out.bw⟩;have S0:RW nb base vh vb vh vb n hs bh F (Rx.rowOf (([]:List (List Tq × Rx)).map (·.2))) w W2 A B:=by
  have P:=m.out;have hN:=((P.net.below y1).below s).below z;have h1:=P.net.h.blk;have h2:=P.net.b.blk;refine⟨netEps hN,((NF.of vh vb (by omega) y1).trans (NF.of vh vb (by omega) s)).trans (NF.of vh vb (by omega) z),(y2.block (s.block _ y2.ltB)).block (z.block A (by omega)),?_,λk hk=>Or.inl (by have:=(h1 k hk).2;omega),λk hk=>Or.inl (by have:=(h2 k hk).2;omega)⟩;rw[<-hB]at X;show TC B (bl (runOf Rx.eps n) 193) W2;rw[q0o (g:=rnNo) (λi hi=>q4u n i hi)];exact X
 have HC:=hyd C;have HB:=hyd hB;clear X z b3 hB J O y1 y2 aH aV aW aA C ac s;go_wp2_with (first|(with_reducible refine gst 247 ?_;refine wpList_store_mid rfl 247 _ _ rfl w1.heap.size 0 L0.toArray rfl rfl (by simpa[aa.out]using aI) (by simpa[aa.out]using q0h) ao.out ?_;rw[List.toList_toArray,<-ap.out]));rw[<-HB.out,<-HA.out];clear aa ao ap aI
 (try simp only[Act.put])
 go_loopw [1] (λx w'=>∃(V I:List (List Tq × Rx)) (o:Option Addr) (d:Nat) (j:List Pt) (vh' vb':Value),x=.slice o j.length d/\Hid (L=V++I)/\Hid (Both Sm j (I.map (·.1)).flatten)/\Hid (LayPre nb base vh vb n hs bh F o d j w)/\Hid (∀p∈j,0<=p.mo/\p.mo<=9)/\RW nb base vh vb vh' vb' n hs bh F (Rx.rowOf (V.map (·.2))) w w' A B) (λx _=>lenV x)
 ·exact⟨[],L,ad,cap,ps,vh,vb,rfl,rfl,Hb,m,D,S0⟩
 clear S0 Hb m D;obtain⟨V,I,o,d,j,vh',vb',rfl,y,Hb,m,D,S⟩:=hrel;rcases I with _|⟨⟨l,t⟩,I⟩
 ·have aT:j.length=0:=by have:=Hb.out.len;simpa using this
  have aS:L=V:=by have:=y.out;simpa using this
  subst aS;have hq:¬((0:Int)<(j.length:Int)):=by omega
  have aG:=S.b.range;have tA:=q0I S.a;obtain⟨M,hM⟩:=nam (bl (runOf (Rx.rowOf (L.map (·.2))) n) 193);rw[<-hM]at aG;have az:M.length=193:=by rw[hM];exact q0c _ _
  have ag:=q0e A M 0 wr;have u:=q5U S.a (runOf (Rx.rowOf (L.map (·.2))) n);rw[<-hM]at u;have a1:=HC.out.g1;have a2:=HC.out.g2;have a4:=HC.out.g4;have NX:=S.net.mine ag (by omega) (λx=>by have:=S.o1 A x;omega) (λx=>by have:=S.o2 A x;omega);have FX:=S.nf.mine ag (by omega) (by omega);obtain⟨WX,ai⟩:=nam (wr.setCells A 0 M);rw[<-ai]at u NX FX;have aP:=hyd ai;have aq:=hyd u;have ab:=hyd az;have aM:Hid (M.toArray.all (·.oneCell')=true):=by show _=true;rw[hM];exact q0w _ _
  have HM:=hyd hM;clear hM az ag u ai a1 a2 a4 S aT;go_wp2_with (first|(with_reducible refine gld 247 ?_;refine wpList_load_mid rfl 247 _ rfl B 0 rfl M _ aG Tryz.underlying247 rfl (by rw[ab.out];exact q0h) ?_)|(with_reducible refine gst 247 ?_;refine wpList_store_mid rfl 247 _ _ rfl A 0 M.toArray rfl rfl (by simpa[ab.out]using tA) (by simpa[ab.out]using q0h) aM.out ?_;rw[List.toList_toArray,<-aP.out]));refine bodyPost_ret (v:=.agg M.toArray) (res_load1 Tryz.results199 rfl aq.out) rfl ?_;exact⟨vh',vb',by rw[HM.out],NX,FX⟩
 have Z:∀x∈I,Pp f 0 x.1 x.2:=λx hx=>HL.out x (by rw[y.out];simp[hx])
 have U:Pp f 0 l t:=HL.out (l,t) (by rw[y.out];simp);have T:Both Sm j (l++(I.map (·.1)).flatten):=Hb.out;obtain⟨aB,aC⟩:=Both.split _ _ _ T;have Y:=T.len;rw[List.length_append]at Y;have aX:0<l.length:=by obtain⟨q,r,e,_⟩:=q3K U;rw[e];simp
 have aE:pieceE j=l.length:=q9p U (by rw[T.kds,q2e]) (y1l Z);have P:=m.out;have hq:(0:Int)<(j.length:Int):=by omega
 have au:Hid (Calls Tryz.prog 209 #[.slice o j.length d] wr λe w'=>e=.returned (.int .i64 (l.length:Nat))/\Below wr.heap.size wr w'):=by
  have:=q7d o d j wr P.len (P.prt.nf P.sep S.nf);rw[aE]at this;exact this
 obtain⟨E,hE⟩:=nam (Rx.rowOf (V.map (·.2)));rw[<-hE]at S;have HE:Hid (Rx.rowOf ((V++[(l,t)]).map (·.2))=.cat E t):=by show _=_;rw[List.map_append,hE];exact Rx.rowOf_snoc _ _
 have H:n+E.sz+t.sz<=96:=by
  have h1:=Hn.out;rw[y.out,Rx.rowOf_sz]at h1;rw[hE,Rx.rowOf_sz];simp at h1 ⊢;omega
 have G:=P.lcap;have aZ:=P.len;have an:Hid (∀W,NF nb vh vb vh' vb' w W->NetIn nb base vh' vb' (n+E.sz) (hsL hs E n) (bhL bh E n) F W->Calls Tryz.prog 210 #[.pointer (some ⟨nb,0,none⟩),.slice (slA o d 0) (l.length-0) (d-0)] W (LayPost nb base vh' vb' (n+E.sz) (hsL hs E n) (bhL bh E n) F t W)):=λW hf hN=>by
  have h1:(j.take l.length).length=l.length-0:=by rw[List.length_take];omega
  have h2:=P.prt.nf P.sep hf;have h3:=h2.sub (cap:=d) 0 l.length (by omega) G;rw[List.drop_zero]at h3;have:=HP.out l t (j.take l.length) (slA o d 0) (d-0) nb base vh' vb' (n+E.sz) (hsL hs E n) (bhL bh E n) F W U aB ⟨hN,P.lnb,by have:=hf.b.size;have:=P.bw;omega,h3,by omega,by omega,(P.sep.nf hf).sub _ _⟩ H (λp hp=>D.out p (List.mem_of_mem_take hp));rw[h1]at this;exact this
 have af:Hid (LayPre nb base vh vb n hs bh F (slA o d l.length) (d-l.length) (j.drop l.length) w):=by
  have h3:=P.prt.sub (cap:=d) l.length (j.length-l.length) (by omega) G;rw[List.take_of_length_le (by rw[List.length_drop];omega)]at h3;exact⟨P.net,P.lnb,P.bw,h3,by rw[List.length_drop];omega,by rw[List.length_drop];omega,P.sep.sub _ _⟩
 have aQ:=hyd aC;have am:Hid (L=(V++[(l,t)])++I):=by show _=_;rw[y.out];simp
 have ar:Hid (∀p∈j.drop l.length,0<=p.mo/\p.mo<=9):=λp hp=>D.out p (List.mem_of_mem_drop hp)
 have ae:Hid ((j.drop l.length).length=j.length-l.length):=by show _=_;rw[List.length_drop]
 have aF:l.length<=j.length:=by omega
 clear hE Z U T aB aC Y aE P Hb m y;go_wp2_with fail;refine au.out.mono ?_;rintro en w1 ⟨rfl,s⟩;have S1:RW nb base vh vb vh' vb' n hs bh F E w w1 A B:=⟨S.net.below s,S.nf.trans (NF.of _ _ (by have:=S.net.c.lt;omega) s),S.a.block (s.block _ S.a.ltB),S.b.block (s.block _ S.b.ltB),S.o1,S.o2⟩;have aj:=hyd (an.out w1 S1.nf S1.net);clear an au S s;go_wp2_with (first|(with_reducible show wpList _ _ _ (⟨_,Op.slice 194 _ _ _ _,_,_,_,_⟩::_) _ _;refine q1G rfl _ _ _ rfl o j.length d rfl 0 l.length (Or.inl ⟨rfl,rfl⟩) (Or.inr ⟨_,rfl,rfl⟩) (by omega) (by omega) ?_));refine aj.out.mono ?_;rintro en w3 ⟨vh2,vb2,rfl,N3,F3⟩;obtain⟨TA,TB,av,o1,o2⟩:=S1.call HC.out F3;obtain⟨X,z,b3⟩:=q2v w3 (runOf t (n+E.sz));have aU:(w3.alloc (.cells (bl (λ_=>false) 193).toArray 247)).there w3.heap.size 0 193:=q0I (TC.boxed w3 _ _);obtain⟨L3,K⟩:=nam (bl (runOf t (n+E.sz)) 193);obtain⟨W4,Q⟩:=nam ((w3.alloc (.cells (bl (λ_=>false) 193).toArray 247)).setCells w3.heap.size 0 (bl (runOf t (n+E.sz)) 193));rw[<-Q]at X z b3;rw[<-K]at Q ⊢;have ak:Hid (L3.length=193):=by show _=_;rw[K];exact q0c _ _
 have aK:Hid (L3.toArray.all (·.oneCell')=true):=by show _=true;rw[K];exact q0w _ _
 have aO:=hyd Q;have aD:=N3.c.lt;have UA:=TA.block (z.block A TA.ltB);have UB:=TB.block (z.block B TB.ltB);have N4:=N3.below z;have F4:=av.trans (NF.of vh2 vb2 (by omega) z);have aJ:=hyd (q3N nb base vh2 vb2 (n+E.sz+t.sz) _ _ F (runOf E n) (runOf t (n+E.sz)) W4 N4 HC.out.g7 H);have aN:=hyd3 UA UB F4;have rB:=UB.range;have rC:=X.range;have Ho:=hyd2 o1 o2;clear UA UB N4 F4 X z b3 o1 o2 aD K Q TA TB N3 av S1 F3 aj;go_wp2_with (first|(with_reducible refine gst 247 ?_;refine wpList_store_mid rfl 247 _ _ rfl w3.heap.size 0 L3.toArray rfl rfl (by simpa[ak.out]using aU) (by simpa[ak.out]using q0h) aK.out ?_;rw[List.toList_toArray,<-aO.out])|(with_reducible refine gld 247 ?_;refine wpList_load_mid rfl 247 _ rfl B 0 rfl (bl (runOf E n) 193) _ rB Tryz.underlying247 rfl (by rw[q0c];exact q0h) ?_)|(with_reducible refine gld 247 ?_;refine wpList_load_mid rfl 247 _ rfl w3.heap.size 0 rfl (bl (runOf t (n+E.sz)) 193) _ rC Tryz.underlying247 rfl (by rw[q0c];exact q0h) ?_));refine aJ.out.mono ?_;rintro en w6 ⟨rfl,N6,F6⟩;obtain⟨aw,ax,ay⟩:=aN.out;obtain⟨tB,R⟩:=RW.step (e2:=t) HC.out aw ax ay Ho.out.1 Ho.out.2 N6 F6 H;rw[<-HE.out]at R;obtain⟨L6,N⟩:=nam (bl (jn (runOf E n) (runOf t (n+E.sz))) 193);rw[<-N]at R ⊢;have al:Hid (L6.length=193):=by show _=_;rw[N];exact q0c _ _
 have aL:Hid (L6.toArray.all (·.oneCell')=true):=by show _=true;rw[N];exact q0w _ _
 clear N N6 F6 aw ax ay rB rC;go_wp2_with (first|(with_reducible refine gst 247 ?_;refine wpList_store_mid rfl 247 _ _ rfl B 0 L6.toArray rfl rfl (by simpa[al.out]using tB) (by simpa[al.out]using q0h) aL.out ?_;rw[List.toList_toArray])|(with_reducible show wpList _ _ _ (⟨_,Op.slice 194 _ _ _ _,_,_,_,_⟩::_) _ _;refine q1G rfl _ _ _ rfl o j.length d rfl l.length j.length (Or.inr ⟨_,rfl,rfl⟩) (Or.inl ⟨rfl,rfl⟩) aF G ?_));go_roundw
 ·exact⟨V++[(l,t)],I,slA o d l.length,d-l.length,j.drop l.length,vh2,vb2,by rw[ae.out],am,aQ,af,ar,R⟩
 simp[lenV];omega
structure RA (nb base:Nat) (vh vb vh' vb':Value) (m:Nat) (hs bh:Nat->Nat->Bool) (F:Nat->Bool) (w w':World) (A:Nat):Prop where
 net:NetIn nb base vh' vb' m hs bh F w'
 nf:NF nb vh vb vh' vb' w w'
 a:TC A (bl (fun _=>false) 193) w'
 o1:∀k,vh'.ownBlock=some k->k<A\/A<k
 o2:∀k,vb'.ownBlock=some k->k<A\/A<k
theorem RA.below {A:Nat} (h:RA nb base vh vb vh' vb' m hs bh F w w' A) (hW:Below w'.heap.size w' w''):RA nb base vh vb vh' vb' m hs bh F w w'' A:=
 ⟨h.net.below hW,h.nf.trans (NF.of _ _ (by have:=h.net.c.lt;omega) hW),h.a.block (hW.block _ h.a.ltB),h.o1,h.o2⟩
theorem RA.call {A:Nat} (h:RA nb base vh vb vh' vb' m hs bh F w w' A) (hA:nb<A) (hN:NetIn nb base vh2 vb2 m2 hs2 bh2 F w'') (hF:NF nb vh' vb' vh2 vb2 w' w''):RA nb base vh vb vh2 vb2 m2 hs2 bh2 F w w'' A:=by
 have ha:=h.a.ltB;refine⟨hN,h.nf.trans hF,h.a.block (hF.k A ha (by omega) (λe=>by have:=h.o1 A e;omega) (λe=>by have:=h.o2 A e;omega)),λk b=>?_,λk b=>?_⟩
 ·rcases hF.oh k b with e|e
  ·exact h.o1 k e
  exact Or.inr (by omega)
 rcases hF.ob k b with e|e
 ·exact h.o2 k e
 exact Or.inr (by omega)
theorem RA.done {A:Nat} (h:RA nb base vh vb vh' vb' m hs bh F w w' A) (hA:nb<A) (hw:w.heap.size<=A) (hnb:nb<w.heap.size) (f:Nat->Bool):
  (loadVar 247 ⟨A,0,none⟩).run Tryz.prog (w'.setCells A 0 (bl f 193))=.ok (.agg (bl f 193).toArray) (w'.setCells A 0 (bl f 193))/\NetIn nb base vh' vb' m hs bh F (w'.setCells A 0 (bl f 193))/\NF nb vh vb vh' vb' w (w'.setCells A 0 (bl f 193))/\w'.there A 0 193:=by
 have b:=q0e A (bl f 193) 0 w';exact⟨q5U h.a f,h.net.mine b (by omega) (λe=>by have:=h.o1 A e;omega) (λe=>by have:=h.o2 A e;omega),h.nf.mine b hw hnb,q0I h.a⟩
theorem y1d (f:Nat) (hR:LayC 199 1 f) (hW:LayC 173 2 f):LayC 173 2 (f+1):=by
 intro ts e ps ad cap nb base vh vb n hs bh F w hp hb a hn aa;have hz:=q1C;have aw:=a.net.c.lt;obtain⟨A,hA⟩:=nam w.heap.size;obtain⟨W1,Z⟩:=nam (w.alloc (.cells (bl (λ_=>false) 193).toArray 247));have T1:=TC.boxed w (bl (λ_=>false) 193) 247;have x1:=box_bel w (.cells (bl (λ_=>false) 193).toArray 247);rw[<-Z]at T1 x1;rw[<-hA]at T1;have R1:RA nb base vh vb vh vb n hs bh F w W1 A:=by
  have h1:=a.net.h.blk;have h2:=a.net.b.blk;exact⟨a.net.below x1,NF.of vh vb (by omega) x1,T1,λk hk=>Or.inl (by have:=(h1 k hk).2;omega),λk hk=>Or.inl (by have:=(h2 k hk).2;omega)⟩
 obtain⟨r,rest,d,hr,l,az⟩:∃(r rest:List Tq) (d:Rx),Pp f 1 r d/\((rest=[]/\e=d)\/∃b q e2,rest=b::q/\b.t.kd=4/\Pp f 2 q e2/\e=.alt d e2)/\ts=r++rest:=by
  rcases hp with h|⟨r,b,q,d,e2,k1,_,k3,k4,k5,k6⟩
  ·exact⟨ts,[],e,h,Or.inl ⟨rfl,rfl⟩,by simp⟩
  exact⟨r,b::q,d,k4,Or.inr ⟨b,q,e2,rfl,k3,k5,k6⟩,k1⟩
 rw[az]at hb;obtain⟨ar,s⟩:=Both.split _ _ _ hb;have H:=hb.len;rw[List.length_append]at H;have ax:rowE ps 0 0=r.length:=y1m hr (by rw[hb.kds,q2e]) (by
  rcases l with ⟨h,_⟩|⟨b,q,_,h,h4,_⟩
  ·exact Or.inl (by rw[h];rfl)
  exact Or.inr ⟨kds q,by rw[h];simp[kds,h4]⟩)
 have I:d.sz<=e.sz:=by
  rcases l with ⟨_,h⟩|⟨_,_,e2,_,_,_,h⟩
  ·rw[h];exact Nat.le_refl _
  rw[h];simp[Rx.sz]
 have G:=a.lcap;have aO:=a.len;have aj:Hid (Calls Tryz.prog 198 #[.slice ad ps.length cap] W1 λen w'=>en=.returned (.int .i64 (r.length:Nat))/\Below W1.heap.size W1 w'):=by
  have:=q9m ad cap ps W1 aO (a.prt.below x1);rw[ax]at this;exact this
 have Q:Hid (∀W,NF nb vh vb vh vb w W->NetIn nb base vh vb n hs bh F W->Calls Tryz.prog 199 #[.pointer (some ⟨nb,0,none⟩),.slice (slA ad cap 0) (r.length-0) (cap-0)] W (LayPost nb base vh vb n hs bh F d W)):=λW hf hN=>by
  have h1:(ps.take r.length).length=r.length-0:=by rw[List.length_take];omega
  have h3:=(a.prt.nf a.sep hf).sub (cap:=cap) 0 r.length (by omega) G;rw[List.drop_zero]at h3;have:=hR r d (ps.take r.length) (slA ad cap 0) (cap-0) nb base vh vb n hs bh F W hr ar ⟨hN,a.lnb,by have:=hf.b.size;have:=a.bw;omega,h3,by omega,by omega,(a.sep.nf hf).sub _ _⟩ (by omega) (λp hp=>aa p (List.mem_of_mem_take hp));rw[h1]at this;exact this
 have HA:=hyd hA;have ak:=hyd Z;have ah:=hyd R1;have ao:=hyd a;have V:=hyd l;have aJ:=hyd s;have aK:=hyd aa;have aI:=hyd hW;have Hn:=hyd hn;have R:=hyd H;have aS:r.length<=ps.length:=by omega
 have O:nb<A:=by omega
 clear hR hW hp hb a hn aa hA Z T1 x1 R1 hr l az ar s H ax I;go_enter Tryz.func173,Tryz.ntmps173;go_wp2_with fail;rw[<-ak.out];refine aj.out.mono ?_;rintro en w1 ⟨rfl,ap⟩;have R2:=ah.out.below ap;have aE:=hyd (Q.out w1 R2.nf R2.net);rw[<-HA.out];clear aj Q ah ak ap;go_wp2_with (first|(with_reducible show wpList _ _ _ (⟨_,Op.slice 194 _ _ _ _,_,_,_,_⟩::_) _ _;refine q1G rfl _ _ _ rfl ad ps.length cap rfl 0 r.length (Or.inl ⟨rfl,rfl⟩) (Or.inr ⟨_,rfl,rfl⟩) (by omega) (by omega) ?_));refine aE.out.mono ?_;rintro en u ⟨vh2,vb2,rfl,N3,F3⟩;have R3:=R2.call O N3 F3;obtain⟨D,J,X⟩:=q2v u (runOf d n);have ay:(u.alloc (.cells (bl (λ_=>false) 193).toArray 247)).there u.heap.size 0 193:=q0I (TC.boxed u _ _);obtain⟨L3,m⟩:=nam (bl (runOf d n) 193);obtain⟨W4,E⟩:=nam ((u.alloc (.cells (bl (λ_=>false) 193).toArray 247)).setCells u.heap.size 0 (bl (runOf d n) 193));rw[<-E]at D J X;rw[<-m]at E ⊢;have j:Hid (L3.length=193):=by show _=_;rw[m];exact q0c _ _
 have B:Hid (L3.toArray.all (·.oneCell')=true):=by show _=true;rw[m];exact q0w _ _
 have al:=hyd E;have ae:=hyd m;have S:=R3.below J;rw[<-m]at D;have rB:=D.range;have L:=HA.out;rcases V.out with ⟨h0,he⟩|⟨b,q,e2,h0,aQ,hq,he⟩
 ·subst he;have ab:ps.length=r.length:=by have:=R.out;rw[h0]at this;simpa using this
  have aN:(ps.length:Int)<=(r.length:Int):=by omega
  obtain⟨K,T,Y,d4⟩:=S.done O (by omega) aw (runOf e n);rw[<-m]at K T Y;obtain⟨WX,o⟩:=nam (W4.setCells A 0 L3);rw[<-o]at K T Y;have U:=hyd o;have C:=hyd K;clear m E D J X R2 R3 S L o K N3 F3 h0 ab;go_wp2_with (first|(with_reducible refine gst 247 ?_;refine wpList_store_mid rfl 247 _ _ rfl u.heap.size 0 L3.toArray rfl rfl (by simpa[j.out]using ay) (by simpa[j.out]using q0h) B.out ?_;rw[List.toList_toArray,<-al.out])|(with_reducible refine gld 247 ?_;refine wpList_load_mid rfl 247 _ rfl u.heap.size 0 rfl L3 _ rB Tryz.underlying247 rfl (by rw[j.out];exact q0h) ?_)|(with_reducible refine gst 247 ?_;refine wpList_store_mid rfl 247 _ _ rfl A 0 L3.toArray rfl rfl (by simpa[j.out]using d4) (by simpa[j.out]using q0h) B.out ?_;rw[List.toList_toArray,<-U.out]));refine bodyPost_ret (v:=.agg L3.toArray) (res_load1 Tryz.results173 rfl C.out) rfl ?_;exact⟨vh2,vb2,by rw[ae.out],T,Y⟩
 have ab:ps.length=r.length+(q.length+1):=by have:=R.out;rw[h0]at this;simpa using this
 have aN:¬((ps.length:Int)<=(r.length:Int)):=by omega
 have s:=aJ.out;rw[h0]at s;have au:Both Sm (ps.drop (r.length+1)) q:=by
  generalize hd:ps.drop r.length=dd at s;cases s with
  |cons h t=>
   rw[<-List.drop_drop,hd];exact t
 have P:=ao.out;have I:e.sz=d.sz+e2.sz:=by rw[he];rfl
 have av:n+d.sz+e2.sz<=96:=by have:=Hn.out;omega
 have ac:Hid (Calls Tryz.prog 173 #[.pointer (some ⟨nb,0,none⟩),.slice (slA ad cap (r.length+1)) (ps.length-(r.length+1)) (cap-(r.length+1))] W4 (LayPost nb base vh2 vb2 (n+d.sz) (hsL hs d n) (bhL bh d n) F e2 W4)):=by
  have h1:(ps.drop (r.length+1)).length=ps.length-(r.length+1):=by rw[List.length_drop]
  have h3:=(P.prt.nf P.sep S.nf).sub (cap:=cap) (r.length+1) (ps.length-(r.length+1)) (by omega) G;rw[List.take_of_length_le (by rw[List.length_drop];omega)]at h3;have:=aI.out q e2 (ps.drop (r.length+1)) (slA ad cap (r.length+1)) (cap-(r.length+1)) nb base vh2 vb2 (n+d.sz) (hsL hs d n) (bhL bh d n) F W4 hq au ⟨S.net,P.lnb,by have:=S.nf.b.size;have:=P.bw;omega,h3,by omega,by omega,(P.sep.nf S.nf).sub _ _⟩ av (λp hp=>aK.out p (List.mem_of_mem_drop hp));rw[h1]at this;exact this
 have ai:=hyd S;have am:=hyd2 D X;have an:Hid ((∀k,vh2.ownBlock=some k->k<u.heap.size)/\(∀k,vb2.ownBlock=some k->k<u.heap.size)/\nb<u.heap.size):=⟨λk hk=>(N3.h.blk k hk).2,λk hk=>(N3.b.blk k hk).2,N3.c.lt⟩;have He:=hyd he;have aR:(r.length:Int)+1<=100:=by omega
 have aM:r.length+1<=ps.length:=by omega
 clear E D J X R2 R3 S L N3 F3 h0 s au P I he hq rB m ab;go_wp2_with (first|(with_reducible refine gst 247 ?_;refine wpList_store_mid rfl 247 _ _ rfl u.heap.size 0 L3.toArray rfl rfl (by simpa[j.out]using ay) (by simpa[j.out]using q0h) B.out ?_;rw[List.toList_toArray,<-al.out])|(with_reducible show wpList _ _ _ (⟨_,Op.slice 194 _ _ _ _,_,_,_,_⟩::_) _ _;refine Stop.out ?_)
  )
 refine⟨?_⟩
 (try simp only[psm])
 refine q1G rfl _ _ _ rfl ad ps.length cap rfl (r.length+1) ps.length (Or.inr ⟨_,rfl,(by show Value.int .i64 ((r.length:Int)+1)=Value.int .i64 ((r.length+1:Nat):Int);simp)⟩) (Or.inl ⟨rfl,rfl⟩) aM G ?_;go_wp2_with fail;refine ac.out.mono ?_;rintro en w5 ⟨aC,aB,rfl,N5,F5⟩;have R5:=ai.out.call O N5 F5;obtain⟨c1,c2⟩:=am.out;obtain⟨q1,q2,q3⟩:=an.out;have tB:=c1.block (F5.k u.heap.size (by omega) (by omega) (λx=>by have:=q1 _ x;omega) (λx=>by have:=q2 _ x;omega));have aL:=F5.b.size;obtain⟨D,J,X⟩:=q2v w5 (runOf e2 (n+d.sz));have aP:(w5.alloc (.cells (bl (λ_=>false) 193).toArray 247)).there w5.heap.size 0 193:=q0I (TC.boxed w5 _ _);obtain⟨L5,y⟩:=nam (bl (runOf e2 (n+d.sz)) 193);obtain⟨W6,N⟩:=nam ((w5.alloc (.cells (bl (λ_=>false) 193).toArray 247)).setCells w5.heap.size 0 (bl (runOf e2 (n+d.sz)) 193));rw[<-N]at D J X;rw[<-y]at N ⊢;have z:Hid (L5.length=193):=by show _=_;rw[y];exact q0c _ _
 have ag:Hid (L5.toArray.all (·.oneCell')=true):=by show _=true;rw[y];exact q0w _ _
 have aH:=hyd N;have R6:=R5.below J;have aA:=tB.block (J.block u.heap.size (by omega));rw[<-y]at D;have rB:=aA.range;have rC:=D.range;have aD:Hid (Calls Tryz.prog 200 #[.agg L3.toArray,.agg L5.toArray] W6 λen w'=>en=.returned (.agg (bl (runOf e n) 193).toArray)/\Below W6.heap.size W6 w'):=by
  have:=q9G (runOf d n) (runOf e2 (n+d.sz)) W6;rw[<-ae.out,<-y,q0o (g:=runOf e n) (λi _=>by rw[He.out];exact y0d d e2 n i)]at this;exact this
 have aG:=hyd R6;clear y N D J X R5 R6 tB aA N5 F5 c1 c2 q1 q2 q3 aL ai ac an am;go_wp2_with (first|(with_reducible refine gst 247 ?_;refine wpList_store_mid rfl 247 _ _ rfl w5.heap.size 0 L5.toArray rfl rfl (by simpa[z.out]using aP) (by simpa[z.out]using q0h) ag.out ?_;rw[List.toList_toArray,<-aH.out])|(with_reducible refine gld 247 ?_;refine wpList_load_mid rfl 247 _ rfl u.heap.size 0 rfl L3 _ rB Tryz.underlying247 rfl (by rw[j.out];exact q0h) ?_)|(with_reducible refine gld 247 ?_;refine wpList_load_mid rfl 247 _ rfl w5.heap.size 0 rfl L5 _ rC Tryz.underlying247 rfl (by rw[z.out];exact q0h) ?_));refine aD.out.mono ?_;rintro en w7 ⟨rfl,aq⟩;have R7:=aG.out.below aq;have L:=HA.out;obtain⟨K,T,Y,d4⟩:=R7.done O (by omega) aw (runOf e n);obtain⟨M,hM⟩:=nam (bl (runOf e n) 193);rw[<-hM]at K T Y ⊢;obtain⟨WX,o⟩:=nam (w7.setCells A 0 M);rw[<-o]at K T Y;have U:=hyd o;have C:=hyd K;have af:Hid (M.length=193):=by show _=_;rw[hM];exact q0c _ _
 have aF:Hid (M.toArray.all (·.oneCell')=true):=by show _=true;rw[hM];exact q0w _ _
 have HM:=hyd hM;have NX:NetIn nb base aC aB (n+e.sz) (hsL hs e n) (bhL bh e n) F WX:=by
  have I:(Rx.alt d e2).sz=d.sz+e2.sz:=rfl;rw[He.out,I,<-Nat.add_assoc];exact T.congr (λp q _ _=>y2Q hs d e2 n p q) (λp q _ _=>y3d bh d e2 n p q)
 clear hM o K T R7 L rB rC aq;go_wp2_with (first|(with_reducible refine gst 247 ?_;refine wpList_store_mid rfl 247 _ _ rfl A 0 M.toArray rfl rfl (by simpa[af.out]using d4) (by simpa[af.out]using q0h) aF.out ?_;rw[List.toList_toArray,<-U.out]));refine bodyPost_ret (v:=.agg M.toArray) (res_load1 Tryz.results173 rfl C.out) rfl ?_;exact⟨aC,aB,by rw[HM.out],NX,Y⟩
end Go.Proofs.YtoaaklhpmhjhkaaGreat
