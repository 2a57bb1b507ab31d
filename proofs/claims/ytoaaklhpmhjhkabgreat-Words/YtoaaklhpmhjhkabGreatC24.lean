import Derived.Test.YtoaaklhpmhjhkabGreatC13
import Derived.Test.YtoaaklhpmhjhkabGreatC20
import Derived.Test.YtoaaklhpmhjhkabGreatC23
set_option maxRecDepth 100000
set_option maxHeartbeats 4000000
set_option linter.all false
namespace Go.Proofs.YtoaaklhpmhjhkabGreat
open Go.RowKit
open Bm
open Pg (Pt)
theorem Gu (ps:List Pt):∀op i,Tm ps op i=RK (ps.map fun p=>p.kd) op i:=by
 induction ps with
 |nil=>intro op i;rfl
 |cons p ps ih=>intro op i;simp only[Tm,List.map_cons,RK,ih]
theorem GS (ps:List Pt):∀op i,Xk ps op i=VE (ps.map fun p=>p.kd) op i:=by
 induction ps with
 |nil=>intro op i;rfl
 |cons p ps ih=>intro op i;simp only[Xk,List.map_cons,VE,ih]
variable {ps:List Pt}{B base n nb:Nat}{F:N_}{bh hs:Nat->N_}{ad:Option Addr}{e:Rx}{vb vb' vb2 vh vh' vh2:Value}{w w' w'':World}
theorem JF {f:Nat}{r:List Tq}{rest:List Int} (h:Pp f 1 r e) (hk:ps.map (fun p=>p.kd)=kds r++rest) (hr:rest=[]\/∃t,rest=4::t):Tm ps 0 0=r.length:=by
 rw[Gu,hk,(Nf f 1 r e h).2.1 0 0 rest (Or.inr ⟨rfl,Nat.le_refl _⟩)];rcases hr with rfl|⟨t,rfl⟩
 ·simp[RK]
 ·simp[RK]
theorem JM (ps:List Pt) (m:Nat):∀(u i:Nat),i<=m->m<u+i->(∀j,i<=j->j<m->∃p,ps[j]?=some p/\Pg.isSuffix p.kd=true)->(∀p,ps[m]?=some p->Pg.isSuffix p.kd=false)->Qd ps u i=m:=by
 intro u
 induction u with
 |zero=>intro i h1 h2;omega
 |succ u ih=>
  intro i h1 h2 h3 h4;rw[Qd];by_cases e:i=m
  ·subst e;rcases hp:ps[i]? with _|p
   ·rfl
   ·simp only[h4 p hp];rfl
  ·obtain⟨p,hp,hs⟩:=h3 i (Nat.le_refl _) (by omega);rw[hp];simp only[hs,if_true];exact ih (i+1) (by omega) (by omega) (fun j a b=>h3 j (by omega) b) h4
theorem MC {f:Nat}{t:List Tq}{rest:List Int} (h:Pp f 0 t e) (hk:ps.map (fun p=>p.kd)=kds t++rest) (hr:∀k r,rest=k::r->Pg.isSuffix k=false):Q6 ps=t.length:=by
 obtain⟨m,m1,m2,m3,m4⟩:=(Nf f 0 t e h).2.2 rfl;have hl:ps.length=t.length+rest.length:=by
  have:=congrArg List.length hk;simpa[Ry]using this
 unfold Q6;rw[GS,hk,m3 0 rest,Nat.zero_add];have hat:∀(j:Nat) (p:Pt),ps[j]?=some p->(kds t++rest)[j]?=some p.kd:=fun j p hp=>by rw[<-hk,List.getElem?_map,hp];rfl
 refine JM ps t.length _ m m2 (by omega) (fun j a b=>?_) (fun p hp=>?_)
 ·have hj:j<ps.length:=by omega
  refine⟨ps[j],List.getElem?_eq_getElem hj,?_⟩;have h1:=hat j _ (List.getElem?_eq_getElem hj);rw[List.getElem?_append_left (by rw[Ry];exact b)]at h1;have h2:t[j]∈t.drop m:=by
   rw[List.mem_iff_getElem?];exact⟨j-m,by rw[List.getElem?_drop,show m+(j-m)=j by omega];exact List.getElem?_eq_getElem b⟩
  have h3:=m4 _ h2;simp only[kds,List.getElem?_map,List.getElem?_eq_getElem b,Option.map_some,Option.some.injEq]at h1;rw[<-h1];unfold Ym at h3;simp only[Pg.isSuffix,Bool.or_eq_true,beq_iff_eq];omega
 ·have h1:=hat _ p hp;rw[List.getElem?_append_right (by rw[Ry];omega),Ry,Nat.sub_self]at h1;rcases rest with _|⟨k,r⟩
  ·cases h1
  ·simp at h1;rw[<-h1];exact hr k r rfl
def Y1 (e:Rx) (n:Nat):Nat->Bool:=fun i=>if i=0 then e.nul else if i<97 then e.fst n (i-1) else e.lst n (i-97)
def Va (hs:Nat->Nat->Bool) (e:Rx) (n:Nat):Nat->Nat->Bool:=fun p b=>if p<n then hs p b else e.has n p b
def UW (bh:Nat->Nat->Bool) (e:Rx) (n:Nat):Nat->Nat->Bool:=fun p q=>if p<n then bh p q else e.fol n p q
theorem Gg (a b:Rx) (n i:Nat) (hi:i<193):jn (Y1 a n) (Y1 b (n+a.sz)) i=Y1 (.cat a b) n i:=by
 unfold jn Y1;by_cases h0:i=0
 ·subst h0;simp[Rx.nul]
 ·by_cases h1:i<97
  ·simp[h0,h1,Rx.fst]
  ·simp[h0,h1,Rx.lst]
theorem Ic (bh:Nat->Nat->Bool) (a b:Rx) (n p q:Nat) (hn:n+a.sz+b.sz<=96) (hp:p<n+a.sz+b.sz):
  R0 (UW (UW bh a n) b (n+a.sz)) (fun p=>Y1 a n (97+p)) (fun q=>Y1 b (n+a.sz) (1+q)) (n+a.sz+b.sz) p q=UW bh (.cat a b) n p q:=by
 unfold R0 UW Y1;simp only[hp,decide_true,Bool.true_and,show ∀x:Nat,¬(97+x=0) from fun x=>by omega,show ∀x:Nat,¬(97+x<97) from fun x=>by omega,show ∀x:Nat,¬(1+x=0) from fun x=>by omega,if_false,Nat.add_sub_cancel_left];have hq:(decide (q<96)&&(if 1+q<97 then b.fst (n+a.sz) q else b.lst (n+a.sz) (1+q-97)))=b.fst (n+a.sz) q:=by
  by_cases h:q<96
  ·simp[h,show 1+q<97 by omega]
  ·simp only[h,decide_false,Bool.false_and];exact(Rx.fst_lt (Or.inr (by omega))).symm
 rw[Bool.and_assoc,hq];by_cases h1:p<n
 ·rw[if_pos (by omega),if_pos h1,if_pos h1,Rx.lst_lt (Or.inl h1)];simp
 ·by_cases h2:p<n+a.sz
  ·rw[if_pos h2,if_neg h1,if_neg h1];simp only[Rx.fol];rw[Rx.fol_lt (e:=b) (Or.inl h2)];simp
  ·rw[if_neg h2,if_neg h1,Rx.lst_lt (Or.inr (by omega))];simp only[Rx.fol];rw[Rx.fol_lt (e:=a) (Or.inr (Or.inl (by omega))),Rx.lst_lt (e:=a) (Or.inr (by omega))];simp
theorem Lz (hs:Nat->Nat->Bool) (a b:Rx) (n p c:Nat):Va (Va hs a n) b (n+a.sz) p c=Va hs (.cat a b) n p c:=by
 unfold Va;by_cases h1:p<n
 ·rw[if_pos (by omega),if_pos h1,if_pos h1]
 ·by_cases h2:p<n+a.sz
  ·rw[if_pos h2,if_neg h1,if_neg h1];simp only[Rx.has];rw[Rx.has_lt (e:=b) (Or.inl h2),Bool.or_false]
  ·rw[if_neg h2,if_neg h1];simp only[Rx.has];rw[Rx.has_lt (e:=a) (Or.inr (by omega)),Bool.false_or]
theorem KW (a b:Rx) (n i:Nat):(Y1 a n i || Y1 b (n+a.sz) i)=Y1 (.alt a b) n i:=by
 unfold Y1;by_cases h0:i=0
 ·subst h0;simp[Rx.nul]
 ·by_cases h1:i<97
  ·simp[h0,h1,Rx.fst]
  ·simp[h0,h1,Rx.lst]
theorem GT (bh:Nat->Nat->Bool) (a b:Rx) (n p q:Nat):UW (UW bh a n) b (n+a.sz) p q=UW bh (.alt a b) n p q:=by
 unfold UW;by_cases h1:p<n
 ·rw[if_pos (by omega),if_pos h1,if_pos h1]
 ·by_cases h2:p<n+a.sz
  ·rw[if_pos h2,if_neg h1,if_neg h1];simp only[Rx.fol];rw[Rx.fol_lt (e:=b) (Or.inl h2),Bool.or_false]
  ·rw[if_neg h2,if_neg h1];simp only[Rx.fol];rw[Rx.fol_lt (e:=a) (Or.inr (Or.inl (by omega))),Bool.false_or]
theorem Hu (hs:Nat->Nat->Bool) (a b:Rx) (n p c:Nat):Va (Va hs a n) b (n+a.sz) p c=Va hs (.alt a b) n p c:=Lz hs a b n p c
theorem ND (bh:Nat->Nat->Bool) (a:Rx) (n p q:Nat) (hn:n+a.sz<=96) (hp:p<n+a.sz):
  R0 (UW bh a n) (fun p=>Y1 a n (97+p)) (fun q=>Y1 a n (1+q)) (n+a.sz) p q=UW bh (.star a) n p q:=by
 unfold R0 UW Y1;simp only[hp,decide_true,Bool.true_and,show ∀x:Nat,¬(97+x=0) from fun x=>by omega,show ∀x:Nat,¬(97+x<97) from fun x=>by omega,show ∀x:Nat,¬(1+x=0) from fun x=>by omega,if_false,Nat.add_sub_cancel_left];have hq:(decide (q<96)&&(if 1+q<97 then a.fst n q else a.lst n (1+q-97)))=a.fst n q:=by
  by_cases h:q<96
  ·simp[h,show 1+q<97 by omega]
  ·simp only[h,decide_false,Bool.false_and];exact(Rx.fst_lt (Or.inr (by omega))).symm
 rw[Bool.and_assoc,hq];by_cases h1:p<n
 ·rw[if_pos h1,if_pos h1,Rx.lst_lt (Or.inl h1)];simp
 ·rw[if_neg h1,if_neg h1];rfl
def GC (ad:Option Addr) (nb:Nat) (vh vb:Value) (w:World):Prop:=∀g o i,ad=some ⟨g,o,i⟩->g<w.heap.size/\g≠nb/\vh.ownBlock≠some g/\vb.ownBlock≠some g
theorem GC.nf (h:GC ad nb vh vb w) (f:NF nb vh vb vh' vb' w w'):GC ad nb vh' vb' w':=fun g o i e=>by
 obtain⟨h1,h2,h3,h4⟩:=h g o i e;have hs:=f.b.size;refine⟨by omega,h2,fun x=>?_,fun x=>?_⟩
 ·rcases f.oh g x with h|h
  ·exact h3 h
  ·omega
 ·rcases f.ob g x with h|h
  ·exact h4 h
  ·omega
theorem GC.sub (h:GC ad nb vh vb w) (cap l:Nat):GC (RL ad cap l) nb vh vb w:=fun g o i e=>by
 unfold RL at e;split at e
 ·exact h g o i e
 ·rcases ad with _|⟨g',o',i'⟩
  ·cases e
  ·simp only[Option.map_some,Option.some.injEq]at e;have:(Addr.add ⟨g',o',i'⟩ (l*261)).block=g':=by unfold Addr.add;split<;>rfl
   rw[e]at this;simp only at this;subst this;exact h g o' i' rfl
theorem PS.nf (h:PS ad ps w) (s:GC ad nb vh vb w) (f:NF nb vh vb vh' vb' w w'):PS ad ps w':=h.keep (fun g o e=>by
 obtain⟨h1,h2,h3,h4⟩:=s g o none e;exact f.k g h1 h2 h3 h4)
structure UD (nb base:Nat) (vh vb:Value) (n:Nat) (hs bh:Nat->Nat->Bool) (F:Nat->Bool) (ad:Option Addr) (cap:Nat) (ps:List Pt) (w:World):Prop where
 net:YH nb base vh vb n hs bh F w
 lnb:nb<base
 bw:base<=w.heap.size
 prt:PS ad ps w
 len:ps.length<=100
 lcap:ps.length<=cap
 sep:GC ad nb vh vb w
def WB (nb base:Nat) (vh vb:Value) (n:Nat) (hs bh:Nat->Nat->Bool) (F:Nat->Bool) (e:Rx) (w:World) (en:Ending) (w':World):Prop:=
 ∃vh' vb',en=.returned (.agg (bl (Y1 e n) 193).toArray)/\YH nb base vh' vb' (n+e.sz) (Va hs e n) (UW bh e n) F w'/\NF nb vh vb vh' vb' w w'
def Sk (fn:Nat) (k f:Nat):Prop:=∀(ts:List Tq) (e:Rx) (ps:List Pt) (ad:Option Addr) (cap nb base:Nat) (vh vb:Value) (n:Nat) (hs bh:Nat->Nat->Bool) (F:Nat->Bool) (w:World),Pp f k ts e->X9 Sm ps ts->UD nb base vh vb n hs bh F ad cap ps w->n+e.sz<=96->(∀p∈ps,0<=p.mo/\p.mo<=9) ->
 Calls Tryz.prog fn #[.pointer (some ⟨nb,0,none⟩),.slice ad ps.length cap] w (WB nb base vh vb n hs bh F e w)
theorem Sx (n i:Nat) (hi:i<193):Y1 .eps n i=TR i:=by
 unfold Y1 TR;by_cases h0:i=0
 ·subst h0;rfl
 ·simp[h0,Rx.fst,Rx.lst]
theorem Mx (h:YH nb base vh vb n hs bh F w):YH nb base vh vb (n+Rx.eps.sz) (Va hs .eps n) (UW bh .eps n) F w:=
 YH.congr (show YH nb base vh vb (n+0) hs bh F w from h) (fun p q hp _=>by unfold Va;rw[if_pos (by simpa[Rx.sz]using hp)]) (fun p q hp _=>by unfold UW;rw[if_pos (by simpa[Rx.sz]using hp)])
structure RW (nb base:Nat) (vh vb vh' vb':Value) (n:Nat) (hs bh:Nat->Nat->Bool) (F:Nat->Bool) (E:Rx) (w w':World) (A B:Nat):Prop where
 net:YH nb base vh' vb' (n+E.sz) (Va hs E n) (UW bh E n) F w'
 nf:NF nb vh vb vh' vb' w w'
 a:TC A (bl (fun _=>false) 193) w'
 b:TC B (bl (Y1 E n) 193) w'
 o1:∀k,vh'.ownBlock=some k->k<A\/B<k
 o2:∀k,vb'.ownBlock=some k->k<A\/B<k
structure RC (nb base:Nat) (w:World) (A B:Nat):Prop where
 g1:nb<A
 g2:A<B
 g4:A=w.heap.size
 g7:nb<base
 g8:base<=w.heap.size
theorem RW.call {E:Rx}{A:Nat} (h:RW nb base vh vb vh' vb' n hs bh F E w w' A B) (c:RC nb base w A B) (hF:NF nb vh' vb' vh2 vb2 w' w''):
  TC A (bl (fun _=>false) 193) w''/\TC B (bl (Y1 E n) 193) w''/\NF nb vh vb vh2 vb2 w w''/\(∀k,vh2.ownBlock=some k->k<A\/B<k)/\(∀k,vb2.ownBlock=some k->k<A\/B<k):=by
 have a1:=c.g1;have a2:=c.g2;have hb:=h.b.ltB;refine⟨h.a.block (hF.k A (by omega) (by omega) (fun e=>by have:=h.o1 A e;omega) (fun e=>by have:=h.o2 A e;omega)),h.b.block (hF.k B (by omega) (by omega) (fun e=>by have:=h.o1 B e;omega) (fun e=>by have:=h.o2 B e;omega)),h.nf.trans hF,fun k hk=>?_,fun k hk=>?_⟩
 ·rcases hF.oh k hk with e|e
  ·exact h.o1 k e
  ·exact Or.inr (by omega)
 ·rcases hF.ob k hk with e|e
  ·exact h.o2 k e
  ·exact Or.inr (by omega)
theorem VL (w:World) (f:Nat->Bool):TC w.heap.size (bl f 193) ((w.alloc (.cells (bl (fun _=>false) 193).toArray 142)).setCells w.heap.size 0 (bl f 193))/\Below w.heap.size w ((w.alloc (.cells (bl (fun _=>false) 193).toArray 142)).setCells w.heap.size 0 (bl f 193))/\((w.alloc (.cells (bl (fun _=>false) 193).toArray 142)).setCells w.heap.size 0 (bl f 193)).heap.size=w.heap.size+1:=by
 have T:=TC.boxed w (bl (fun _=>false) 193) 142;have x:=box_bel w (.cells (bl (fun _=>false) 193).toArray 142);have hg:=Y6 w.heap.size (bl f 193) 0 (w.alloc (.cells (bl (fun _=>false) 193).toArray 142));refine⟨?_,x.grown hg x.size (fun q hq=>by cases hq;omega),by rw[Vz];simp⟩;have:=T.setPart 0 193 f (by omega);rw[YR (g:=f) (fun i hi=>by unfold XM;rw[if_pos (by omega)];rfl)]at this;exact this
variable {e2:Rx}
theorem RW.step {E:Rx}{W5 w6:World}{A:Nat} (c:RC nb base w A B) (hA:TC A (bl (fun _=>false) 193) W5) (hB:TC B (bl (Y1 E n) 193) W5) (hf:NF nb vh vb vh2 vb2 w W5) (o1:∀k,vh2.ownBlock=some k->k<A\/B<k) (o2:∀k,vb2.ownBlock=some k->k<A\/B<k)
  (h6N:YH nb base vh2 vb2 (n+E.sz+e2.sz) (Va (Va hs E n) e2 (n+E.sz)) (R0 (UW (UW bh E n) e2 (n+E.sz)) (fun p=>Y1 E n (97+p)) (fun q=>Y1 e2 (n+E.sz) (1+q)) (n+E.sz+e2.sz)) F w6) (h6F:NF nb vh2 vb2 vh2 vb2 W5 w6) (hn:n+E.sz+e2.sz<=96):
  w6.there B 0 193/\RW nb base vh vb vh2 vb2 n hs bh F (.cat E e2) w (w6.setCells B 0 (bl (jn (Y1 E n) (Y1 e2 (n+E.sz))) 193)) A B:=by
 have a1:=c.g1;have a2:=c.g2;have a4:=c.g4;have hb5:=hB.ltB;have TA:=hA.block (h6F.k A (by omega) (by omega) (fun e=>by have:=o1 A e;omega) (fun e=>by have:=o2 A e;omega));have TB:=hB.block (h6F.k B (by omega) (by omega) (fun e=>by have:=o1 B e;omega) (fun e=>by have:=o2 B e;omega));have hg:=Y6 B (bl (jn (Y1 E n) (Y1 e2 (n+E.sz))) 193) 0 w6;refine⟨Yq TB,?_⟩;have hN:=h6N.mine hg (by omega) (fun e=>by have:=o1 B e;omega) (fun e=>by have:=o2 B e;omega);have hF:=(hf.trans h6F).mine hg (by omega) (by omega);have hsz:(Rx.cat E e2).sz=E.sz+e2.sz:=rfl;refine⟨?_,hF,TA.block (hg.block A TA.ltB (fun e=>by have:=Option.some.inj e;omega)),?_,o1,o2⟩
 ·rw[hsz,<-Nat.add_assoc];exact hN.congr (fun p q _ _=>Lz hs E e2 n p q) (fun p q hp _=>Ic bh E e2 n p q hn hp)
 ·have:=TB.setPart 0 193 (jn (Y1 E n) (Y1 e2 (n+E.sz))) (by omega);rw[YR (g:=Y1 (.cat E e2) n) (fun i hi=>by unfold XM;rw[if_pos (by omega)];exact Gg E e2 n i hi)]at this;exact this
theorem Mb (f:Nat) (hP:Sk 94 0 f) (ts:List Tq) (e:Rx) (ps:List Pt) (ad:Option Addr) (cap nb base:Nat) (vh vb:Value) (n:Nat) (hs bh:Nat->Nat->Bool) (F:Nat->Bool) (le mo:Nat) (w:World) (hp:Pp f 0 ts e) (hb:X9 Sm ps ts) (hpre:UD nb base vh vb n hs bh F ad cap ps w) (hn:n+mo*e.sz<=96) (hmo:∀p∈ps,0<=p.mo/\p.mo<=9) (hm9:mo<=9) (hl9:le<=9):
  Calls Tryz.prog 104 #[.pointer (some ⟨nb,0,none⟩),.slice ad ps.length cap,.int .i64 le,.int .i64 mo] w (WB nb base vh vb n hs bh F (Rx.rowOf (Rx.copies e le mo)) w):=by
 have hz:=Xh;have hnw:=hpre.net.c.lt;obtain⟨A,hA⟩:=nam w.heap.size;obtain⟨W1,hW1⟩:=nam (w.alloc (.cells (bl (fun _=>false) 193).toArray 142));have T1:=TC.boxed w (bl (fun _=>false) 193) 142;have x1:=box_bel w (.cells (bl (fun _=>false) 193).toArray 142);rw[<-hW1]at T1 x1;rw[<-hA]at T1;have HA:=hyd hA;have HW1:=hyd hW1;have HP:=hyd hP;have Hp:=hyd hp;have Hb:=hyd hb;have Hpre:=hyd hpre;have Hmo:=hyd hmo;have Hx1:=hyd2 x1 T1;have Hn:=hyd hn;clear hP hp hb hpre hmo hA hW1 T1 x1 hn;go_enter Tryz.func104,Tryz.ntmps104;go_wp2_with fail;rw[<-HW1.out];refine Calls.mono (UL W1) ?_;rintro en w1 ⟨rfl,hB1⟩;obtain⟨b1,b2,b3⟩:=VL w1 TR;have ht0:(w1.alloc (.cells (bl (fun _=>false) 193).toArray 142)).there w1.heap.size 0 193:=Yq (TC.boxed w1 _ _);obtain⟨B,hB⟩:=nam w1.heap.size;obtain⟨L0,hL0⟩:=nam (bl TR 193);obtain⟨W2,hW2⟩:=nam ((w1.alloc (.cells (bl (fun _=>false) 193).toArray 142)).setCells w1.heap.size 0 (bl TR 193));rw[<-hW2]at b1 b2 b3;rw[<-hL0]at hW2 ⊢;have HL0:Hid (L0.length=193):=by show _=_;rw[hL0];exact Y7 _ _
 have HO0:Hid (L0.toArray.all (·.oneCell')=true):=by show _=true;rw[hL0];exact YO _ _
 have HW2:=hyd hW2;obtain⟨y1,y2⟩:=Hx1.out;have hsA:=HA.out;have hzw:=hB1.size;have hW1s:W1.heap.size=A+1:=by rw[HW1.out,HA.out];simp
 have C:RC nb base w A B:=⟨by omega,by omega,hsA,Hpre.out.lnb,Hpre.out.bw⟩;have S0:RW nb base vh vb vh vb n hs bh F (Rx.rowOf (Rx.copies e le 0)) w W2 A B:=by
  have P:=Hpre.out;have hN:=((P.net.below y1).below hB1).below b2;have h1:=P.net.h.blk;have h2:=P.net.b.blk;refine⟨Mx hN,((NF.of vh vb (by omega) y1).trans (NF.of vh vb (by omega) hB1)).trans (NF.of vh vb (by omega) b2),(y2.block (hB1.block _ y2.ltB)).block (b2.block A (by omega)),?_,fun k hk=>Or.inl (by have:=(h1 k hk).2;omega),fun k hk=>Or.inl (by have:=(h2 k hk).2;omega)⟩;rw[<-hB]at b1;show TC B (bl (Y1 Rx.eps n) 193) W2;rw[YR (g:=TR) (fun i hi=>Sx n i hi)];exact b1
 have HC:=hyd C;have HB:=hyd hB;have hmo':(mo:Int)<=9:=by omega
 clear b1 b2 b3 hB hL0 hW2 y1 y2 hsA hzw hW1s C HW1 hB1;go_wp2_with (first|(with_reducible refine gst 142 ?_;refine wpList_store_mid rfl 142 _ _ rfl w1.heap.size 0 L0.toArray rfl rfl (by simpa[HL0.out]using ht0) (by simpa[HL0.out]using Y3) HO0.out ?_;rw[List.toList_toArray,<-HW2.out]));rw[<-HB.out,<-HA.out];clear HL0 HO0 HW2 ht0
 go_loopw [10] (fun x w'=>∃(i:Nat) (vh' vb':Value),x=.int .i64 i/\i<=mo/\RW nb base vh vb vh' vb' n hs bh F (Rx.rowOf (Rx.copies e le i)) w w' A B) (fun x _=>mo-(intOf x).toNat)
 case atStart=>exact⟨0,vh,vb,rfl,by omega,S0⟩
 case round=>
  clear S0;obtain⟨i,vh',vb',rfl,hi,S⟩:=hrel;by_cases hlt:i<mo
  ·have hlt':(i:Int)<mo:=by omega
   obtain⟨E,hE⟩:=nam (Rx.rowOf (Rx.copies e le i));rw[<-hE]at S;have hEs:E.sz=i*e.sz:=by rw[hE];exact Rx.copies_sz e le i
   have hmul:(i+1)*e.sz<=mo*e.sz:=Nat.mul_le_mul_right _ hlt;rw[Nat.add_mul,Nat.one_mul,<-hEs]at hmul;have hn96:n+E.sz+e.sz<=96:=by have:=Hn.out;omega
   have HE:Hid (Rx.rowOf (Rx.copies e le (i+1))=.cat E (if i<le then e else .opt e)):=by show _=_;rw[Rx.copies_succ,Rx.rowOf_snoc,<-hE]
   clear hE hEs hmul;have P:=Hpre.out;have hpre2:UD nb base vh' vb' (n+E.sz) (Va hs E n) (UW bh E n) F ad cap ps wr:=⟨S.net,P.lnb,by have:=S.nf.b.size;have:=P.bw;omega,P.prt.nf P.sep S.nf,P.len,P.lcap,P.sep.nf S.nf⟩;have HC1:=HP.out ts e ps ad cap nb base vh' vb' (n+E.sz) (Va hs E n) (UW bh E n) F wr Hp.out Hb.out hpre2 hn96 Hmo.out;have HCp:Hid (Calls Tryz.prog 94 #[.pointer (some ⟨nb,0,none⟩),.slice ad ps.length cap] wr (WB nb base vh' vb' (n+E.sz) (Va hs E n) (UW bh E n) F e wr)):=HC1;clear HC1 hpre2 P;go_wp2_with fail;refine HCp.out.mono ?_;rintro en w3 ⟨vh2,vb2,rfl,N3,F3⟩;obtain⟨TA,TB,NFw,o1,o2⟩:=S.call HC.out F3;obtain⟨b1,b2,b3⟩:=VL w3 (Y1 e (n+E.sz));have ht3:(w3.alloc (.cells (bl (fun _=>false) 193).toArray 142)).there w3.heap.size 0 193:=Yq (TC.boxed w3 _ _);obtain⟨L3,hL3⟩:=nam (bl (Y1 e (n+E.sz)) 193);obtain⟨W4,hW4⟩:=nam ((w3.alloc (.cells (bl (fun _=>false) 193).toArray 142)).setCells w3.heap.size 0 (bl (Y1 e (n+E.sz)) 193));rw[<-hW4]at b1 b2 b3;rw[<-hL3]at hW4 ⊢;have HL3:Hid (L3.length=193):=by show _=_;rw[hL3];exact Y7 _ _
   have HO3:Hid (L3.toArray.all (·.oneCell')=true):=by show _=true;rw[hL3];exact YO _ _
   have HW4:=hyd hW4;have hnb3:=N3.c.lt;have UA:=TA.block (b2.block A TA.ltB);have UB:=TB.block (b2.block B TB.ltB);have hB3:=TB.ltB;have N4:=N3.below b2;have F4:=NFw.trans (NF.of vh2 vb2 (by omega) b2);have hw3:=NFw.b.size;have hb1:=N3.h.blk;have hb2:=N3.b.blk;have hA2:=HC.out.g2;obtain⟨c1,c1f⟩:=b1 0 _ (YK _ (by omega));clear hL3 hW4 TA TB N3 NFw S F3;have hg5:∀u,Below w3.heap.size w3 W4->W4.grownBy (W4.setCell ⟨w3.heap.size,0,none⟩ u) (some w3.heap.size):=fun u _=>Y6 w3.heap.size [u] 0 W4
   by_cases hle:i<le
   ·have hle':¬((le:Int)<=i):=by omega
    rw[if_pos hle]at HE;have HCj:=hyd (TI nb base vh2 vb2 (n+E.sz+e.sz) _ _ F (Y1 E n) (Y1 e (n+E.sz)) W4 N4 HC.out.g7 hn96);have HS4:=hyd3 UA UB F4;have rB:=UB.range;have rC:=b1.range;have Ho:=hyd2 o1 o2;clear UA UB N4 F4 b1 b2 b3 hB3 hw3 hb1 hb2 hA2 hg5 o1 o2 hnb3 c1 c1f;go_wp2_with (first|(with_reducible refine gst 142 ?_;refine wpList_store_mid rfl 142 _ _ rfl w3.heap.size 0 L3.toArray rfl rfl (by simpa[HL3.out]using ht3) (by simpa[HL3.out]using Y3) HO3.out ?_;rw[List.toList_toArray,<-HW4.out])|(with_reducible refine gld 142 ?_;refine wpList_load_mid rfl 142 _ rfl B 0 rfl (bl (Y1 E n) 193) _ rB u_c rfl (by rw[Y7];exact Y3) ?_)|(with_reducible refine gld 142 ?_;refine wpList_load_mid rfl 142 _ rfl w3.heap.size 0 rfl (bl (Y1 e (n+E.sz)) 193) _ rC u_c rfl (by rw[Y7];exact Y3) ?_));refine HCj.out.mono ?_;rintro en w6 ⟨rfl,N6,F6⟩;obtain⟨h4a,h4b,h4f⟩:=HS4.out;obtain⟨tB,R⟩:=RW.step (e2:=e) HC.out h4a h4b h4f Ho.out.1 Ho.out.2 N6 F6 hn96;rw[<-HE.out]at R;obtain⟨L6,hL6⟩:=nam (bl (jn (Y1 E n) (Y1 e (n+E.sz))) 193);rw[<-hL6]at R ⊢;have HL6:Hid (L6.length=193):=by show _=_;rw[hL6];exact Y7 _ _
    have HO6:Hid (L6.toArray.all (·.oneCell')=true):=by show _=true;rw[hL6];exact YO _ _
    clear hL6 N6 F6 h4a h4b h4f rB rC;go_wp2_with (first|(with_reducible refine gst 142 ?_;refine wpList_store_mid rfl 142 _ _ rfl B 0 L6.toArray rfl rfl (by simpa[HL6.out]using tB) (by simpa[HL6.out]using Y3) HO6.out ?_;rw[List.toList_toArray]));go_roundw
    case rel=>exact⟨i+1,vh2,vb2,by go_num,by omega,R⟩
    case measure=>simp[intOf];omega
   ·have hle':(le:Int)<=i:=by omega
    rw[if_neg hle]at HE;have b5:=b1.set 0 (by rw[Y7];omega) (.bool true);rw[UG,YR (g:=Y1 (.opt e) (n+E.sz)) (fun j _=>by
     unfold Y1;by_cases h0:j=0
     ·simp[h0,Rx.nul]
     ·simp[h0,Rx.fst,Rx.lst])]at b5
    have g5:=hg5 (.bool true) b2;obtain⟨W5,hW5⟩:=nam (W4.setCell ⟨w3.heap.size,0,none⟩ (.bool true));rw[<-hW5]at b5 g5;have HW5:=hyd hW5;have VA:=UA.block (g5.block A UA.ltB (fun x=>by have:=Option.some.inj x;omega));have VB:=UB.block (g5.block B UB.ltB (fun x=>by have:=Option.some.inj x;omega));have N5:=N4.mine g5 (by omega) (fun x=>by have:=(hb1 _ x).2;omega) (fun x=>by have:=(hb2 _ x).2;omega);have F5:=F4.mine g5 (by omega) (by omega);clear hW5 g5;have HCj:=hyd (TI nb base vh2 vb2 (n+E.sz+e.sz) _ _ F (Y1 E n) (Y1 (.opt e) (n+E.sz)) W5 N5 HC.out.g7 hn96);have HS4:=hyd3 VA VB F5;have rB:=VB.range;have rC:=b5.range;have Ho:=hyd2 o1 o2;clear UA UB N4 F4 VA VB N5 F5 b1 b2 b3 b5 hB3 hw3 hb1 hb2 hA2 hg5 o1 o2 hnb3;go_wp2_with (first|(with_reducible refine gst 142 ?_;refine wpList_store_mid rfl 142 _ _ rfl w3.heap.size 0 L3.toArray rfl rfl (by simpa[HL3.out]using ht3) (by simpa[HL3.out]using Y3) HO3.out ?_;rw[List.toList_toArray,<-HW4.out])|(with_reducible refine gld 142 ?_;rw[<-HW5.out];refine wpList_load_mid rfl 142 _ rfl B 0 rfl (bl (Y1 E n) 193) _ rB u_c rfl (by rw[Y7];exact Y3) ?_)|(with_reducible refine gld 142 ?_;refine wpList_load_mid rfl 142 _ rfl w3.heap.size 0 rfl (bl (Y1 (.opt e) (n+E.sz)) 193) _ rC u_c rfl (by rw[Y7];exact Y3) ?_));refine HCj.out.mono ?_;rintro en w6 ⟨rfl,N6,F6⟩;obtain⟨h4a,h4b,h4f⟩:=HS4.out;obtain⟨tB,R⟩:=RW.step (e2:=.opt e) HC.out h4a h4b h4f Ho.out.1 Ho.out.2 N6 F6 hn96;rw[<-HE.out]at R;obtain⟨L6,hL6⟩:=nam (bl (jn (Y1 E n) (Y1 (.opt e) (n+E.sz))) 193);rw[<-hL6]at R ⊢;have HL6:Hid (L6.length=193):=by show _=_;rw[hL6];exact Y7 _ _
    have HO6:Hid (L6.toArray.all (·.oneCell')=true):=by show _=true;rw[hL6];exact YO _ _
    clear hL6 N6 F6 h4a h4b h4f rB rC;go_wp2_with (first|(with_reducible refine gst 142 ?_;refine wpList_store_mid rfl 142 _ _ rfl B 0 L6.toArray rfl rfl (by simpa[HL6.out]using tB) (by simpa[HL6.out]using Y3) HO6.out ?_;rw[List.toList_toArray]));go_roundw
    case rel=>exact⟨i+1,vh2,vb2,by go_num,by omega,R⟩
    case measure=>simp[intOf];omega
  ·have hge:¬(i:Int)<mo:=by omega
   have him:i=mo:=by omega
   subst him;have hrB:=S.b.range;have tA:=Yq S.a;obtain⟨M,hM⟩:=nam (bl (Y1 (Rx.rowOf (Rx.copies e le i)) n) 193);rw[<-hM]at hrB;have hMl:M.length=193:=by rw[hM];exact Y7 _ _
   have hGr:=Y6 A M 0 wr;have hfin:=Rb S.a (Y1 (Rx.rowOf (Rx.copies e le i)) n);rw[<-hM]at hfin;have a1:=HC.out.g1;have a2:=HC.out.g2;have a4:=HC.out.g4;have NX:=S.net.mine hGr (by omega) (fun x=>by have:=S.o1 A x;omega) (fun x=>by have:=S.o2 A x;omega);have FX:=S.nf.mine hGr (by omega) (by omega);obtain⟨WX,hWX⟩:=nam (wr.setCells A 0 M);rw[<-hWX]at hfin NX FX;have HWX:=hyd hWX;have Hfin:=hyd hfin;have HMl:=hyd hMl;have HOM:Hid (M.toArray.all (·.oneCell')=true):=by show _=true;rw[hM];exact YO _ _
   have HM:=hyd hM;clear hM hMl hGr hfin hWX a1 a2 a4 S;go_wp2_with (first|(with_reducible refine gld 142 ?_;refine wpList_load_mid rfl 142 _ rfl B 0 rfl M _ hrB u_c rfl (by rw[HMl.out];exact Y3) ?_)|(with_reducible refine gst 142 ?_;refine wpList_store_mid rfl 142 _ _ rfl A 0 M.toArray rfl rfl (by simpa[HMl.out]using tA) (by simpa[HMl.out]using Y3) HOM.out ?_;rw[List.toList_toArray,<-HWX.out]));refine bodyPost_ret (v:=.agg M.toArray) (res_load1 Tryz.results104 rfl Hfin.out) rfl ?_;exact⟨vh',vb',by rw[HM.out],NX,FX⟩
def FK:Value->Nat
 |.slice _ n _=>n
 |_=>0
variable {ts:List Tq}
theorem TO {f:Nat} (h:Pp f 0 ts e):∃q r,ts=q::r/\(q.t.kd=1\/q.t.kd=2):=by
 obtain⟨_,F,k2,_,_⟩:=Qn f 0 ts e h;exact(k2 rfl).2
theorem JG {f:Nat}{L:List (List Tq × Rx)} (h:∀x∈L,Pp f 0 x.1 x.2):∀k r,kds (L.map (·.1)).flatten=k::r->Pg.isSuffix k=false:=by
 intro k r he;rcases L with _|⟨x,L⟩
 ·simp[kds]at he
 ·obtain⟨q,r',e1,e2⟩:=TO (h x (by simp));rw[List.map_cons,List.flatten_cons,VW,e1]at he;simp[kds]at he;rw[<-he.1];rcases e2 with e2|e2<;>(rw[e2];rfl)
theorem Gv (f:Nat) (hP:Sk 94 0 f) (L:List (List Tq × Rx)) (ps:List Pt) (ad:Option Addr) (cap nb base:Nat) (vh vb:Value) (n:Nat) (hs bh:Nat->Nat->Bool) (F:Nat->Bool) (w:World) (hL:∀x∈L,Pp f 0 x.1 x.2) (hb:X9 Sm ps (L.map (·.1)).flatten) (hpre:UD nb base vh vb n hs bh F ad cap ps w) (hn:n+(Rx.rowOf (L.map (·.2))).sz<=96) (hmo:∀p∈ps,0<=p.mo/\p.mo<=9):
  Calls Tryz.prog 85 #[.pointer (some ⟨nb,0,none⟩),.slice ad ps.length cap] w (WB nb base vh vb n hs bh F (Rx.rowOf (L.map (·.2))) w):=by
 have hz:=Xh;have hnw:=hpre.net.c.lt;obtain⟨A,hA⟩:=nam w.heap.size;obtain⟨W1,hW1⟩:=nam (w.alloc (.cells (bl (fun _=>false) 193).toArray 142));have T1:=TC.boxed w (bl (fun _=>false) 193) 142;have x1:=box_bel w (.cells (bl (fun _=>false) 193).toArray 142);rw[<-hW1]at T1 x1;rw[<-hA]at T1;have HA:=hyd hA;have HW1:=hyd hW1;have HP:=hyd hP;have Hb:=hyd hb;have Hpre:=hyd hpre;have Hmo:=hyd hmo;have Hx1:=hyd2 x1 T1;have Hn:=hyd hn;have HL:=hyd hL;clear hP hL hb hpre hmo hA hW1 T1 x1 hn;go_enter Tryz.func85,Tryz.ntmps85;go_wp2_with fail;rw[<-HW1.out];refine Calls.mono (UL W1) ?_;rintro en w1 ⟨rfl,hB1⟩;obtain⟨b1,b2,b3⟩:=VL w1 TR;have ht0:(w1.alloc (.cells (bl (fun _=>false) 193).toArray 142)).there w1.heap.size 0 193:=Yq (TC.boxed w1 _ _);obtain⟨B,hB⟩:=nam w1.heap.size;obtain⟨L0,hL0⟩:=nam (bl TR 193);obtain⟨W2,hW2⟩:=nam ((w1.alloc (.cells (bl (fun _=>false) 193).toArray 142)).setCells w1.heap.size 0 (bl TR 193));rw[<-hW2]at b1 b2 b3;rw[<-hL0]at hW2 ⊢;have HL0:Hid (L0.length=193):=by show _=_;rw[hL0];exact Y7 _ _
 have HO0:Hid (L0.toArray.all (·.oneCell')=true):=by show _=true;rw[hL0];exact YO _ _
 have HW2:=hyd hW2;obtain⟨y1,y2⟩:=Hx1.out;have hsA:=HA.out;have hz1:=y1.size;have hzw:=hB1.size;have hW1s:W1.heap.size=A+1:=by rw[HW1.out,HA.out];simp
 have C:RC nb base w A B:=⟨by omega,by omega,hsA,Hpre.out.lnb,Hpre.out.bw⟩;have S0:RW nb base vh vb vh vb n hs bh F (Rx.rowOf (([]:List (List Tq × Rx)).map (·.2))) w W2 A B:=by
  have P:=Hpre.out;have hN:=((P.net.below y1).below hB1).below b2;have h1:=P.net.h.blk;have h2:=P.net.b.blk;refine⟨Mx hN,((NF.of vh vb (by omega) y1).trans (NF.of vh vb (by omega) hB1)).trans (NF.of vh vb (by omega) b2),(y2.block (hB1.block _ y2.ltB)).block (b2.block A (by omega)),?_,fun k hk=>Or.inl (by have:=(h1 k hk).2;omega),fun k hk=>Or.inl (by have:=(h2 k hk).2;omega)⟩;rw[<-hB]at b1;show TC B (bl (Y1 Rx.eps n) 193) W2;rw[YR (g:=TR) (fun i hi=>Sx n i hi)];exact b1
 have HC:=hyd C;have HB:=hyd hB;clear b1 b2 b3 hB hL0 hW2 y1 y2 hsA hz1 hzw hW1s C HW1 hB1;go_wp2_with (first|(with_reducible refine gst 142 ?_;refine wpList_store_mid rfl 142 _ _ rfl w1.heap.size 0 L0.toArray rfl rfl (by simpa[HL0.out]using ht0) (by simpa[HL0.out]using Y3) HO0.out ?_;rw[List.toList_toArray,<-HW2.out]));rw[<-HB.out,<-HA.out];clear HL0 HO0 HW2 ht0
 (try simp only[Act.put])
 go_loopw [1] (fun x w'=>∃(L1 L2:List (List Tq × Rx)) (ad':Option Addr) (cap':Nat) (ps':List Pt) (vh' vb':Value),x=.slice ad' ps'.length cap'/\Hid (L=L1++L2)/\Hid (X9 Sm ps' (L2.map (·.1)).flatten)/\Hid (UD nb base vh vb n hs bh F ad' cap' ps' w)/\Hid (∀p∈ps',0<=p.mo/\p.mo<=9)/\RW nb base vh vb vh' vb' n hs bh F (Rx.rowOf (L1.map (·.2))) w w' A B) (fun x _=>FK x)
 case atStart=>exact⟨[],L,ad,cap,ps,vh,vb,rfl,rfl,Hb,Hpre,Hmo,S0⟩
 case round=>
  clear S0 Hb Hpre Hmo;obtain⟨L1,L2,ad',cap',ps',vh',vb',rfl,HLL,Hb,Hpre,Hmo,S⟩:=hrel;rcases L2 with _|⟨⟨p1,e1⟩,L2⟩
  ·have hp0:ps'.length=0:=by have:=Hb.out.len;simpa using this
   have hLe:L=L1:=by have:=HLL.out;simpa using this
   subst hLe;have hq:¬((0:Int)<(ps'.length:Int)):=by omega
   have hrB:=S.b.range;have tA:=Yq S.a;obtain⟨M,hM⟩:=nam (bl (Y1 (Rx.rowOf (L.map (·.2))) n) 193);rw[<-hM]at hrB;have hMl:M.length=193:=by rw[hM];exact Y7 _ _
   have hGr:=Y6 A M 0 wr;have hfin:=Rb S.a (Y1 (Rx.rowOf (L.map (·.2))) n);rw[<-hM]at hfin;have a1:=HC.out.g1;have a2:=HC.out.g2;have a4:=HC.out.g4;have NX:=S.net.mine hGr (by omega) (fun x=>by have:=S.o1 A x;omega) (fun x=>by have:=S.o2 A x;omega);have FX:=S.nf.mine hGr (by omega) (by omega);obtain⟨WX,hWX⟩:=nam (wr.setCells A 0 M);rw[<-hWX]at hfin NX FX;have HWX:=hyd hWX;have Hfin:=hyd hfin;have HMl:=hyd hMl;have HOM:Hid (M.toArray.all (·.oneCell')=true):=by show _=true;rw[hM];exact YO _ _
   have HM:=hyd hM;clear hM hMl hGr hfin hWX a1 a2 a4 S hp0;go_wp2_with (first|(with_reducible refine gld 142 ?_;refine wpList_load_mid rfl 142 _ rfl B 0 rfl M _ hrB u_c rfl (by rw[HMl.out];exact Y3) ?_)|(with_reducible refine gst 142 ?_;refine wpList_store_mid rfl 142 _ _ rfl A 0 M.toArray rfl rfl (by simpa[HMl.out]using tA) (by simpa[HMl.out]using Y3) HOM.out ?_;rw[List.toList_toArray,<-HWX.out]));refine bodyPost_ret (v:=.agg M.toArray) (res_load1 Tryz.results85 rfl Hfin.out) rfl ?_;exact⟨vh',vb',by rw[HM.out],NX,FX⟩
  ·have hmem:∀x∈L2,Pp f 0 x.1 x.2:=fun x hx=>HL.out x (by rw[HLL.out];simp[hx])
   have hp1:Pp f 0 p1 e1:=HL.out (p1,e1) (by rw[HLL.out];simp);have hbs:X9 Sm ps' (p1++(L2.map (·.1)).flatten):=Hb.out;obtain⟨hb1,hb2⟩:=X9.split _ _ _ hbs;have hlen:=hbs.len;rw[List.length_append]at hlen;have hm0:0<p1.length:=by obtain⟨q,r,e,_⟩:=TO hp1;rw[e];simp
   have hpe:Q6 ps'=p1.length:=MC hp1 (by rw[hbs.kds,VW]) (JG hmem);have P:=Hpre.out;have hq:(0:Int)<(ps'.length:Int):=by omega
   have Hpe:Hid (Calls Tryz.prog 93 #[.slice ad' ps'.length cap'] wr fun e w'=>e=.returned (.int .i64 (p1.length:Nat))/\Below wr.heap.size wr w'):=by
    have:=OQ ad' cap' ps' wr P.len (P.prt.nf P.sep S.nf);rw[hpe]at this;exact this
   obtain⟨E,hE⟩:=nam (Rx.rowOf (L1.map (·.2)));rw[<-hE]at S;have HE:Hid (Rx.rowOf ((L1++[(p1,e1)]).map (·.2))=.cat E e1):=by show _=_;rw[List.map_append,hE];exact Rx.rowOf_snoc _ _
   have hn96:n+E.sz+e1.sz<=96:=by
    have h1:=Hn.out;rw[HLL.out,Rx.rowOf_sz]at h1;rw[hE,Rx.rowOf_sz];simp at h1 ⊢;omega
   have hcap:=P.lcap;have hpl:=P.len;have HLP:Hid (∀W,NF nb vh vb vh' vb' w W->YH nb base vh' vb' (n+E.sz) (Va hs E n) (UW bh E n) F W->Calls Tryz.prog 94 #[.pointer (some ⟨nb,0,none⟩),.slice (RL ad' cap' 0) (p1.length-0) (cap'-0)] W (WB nb base vh' vb' (n+E.sz) (Va hs E n) (UW bh E n) F e1 W)):=fun W hf hN=>by
    have h1:(ps'.take p1.length).length=p1.length-0:=by rw[List.length_take];omega
    have h2:=P.prt.nf P.sep hf;have h3:=h2.sub (cap:=cap') 0 p1.length (by omega) hcap;rw[List.drop_zero]at h3;have:=HP.out p1 e1 (ps'.take p1.length) (RL ad' cap' 0) (cap'-0) nb base vh' vb' (n+E.sz) (Va hs E n) (UW bh E n) F W hp1 hb1 ⟨hN,P.lnb,by have:=hf.b.size;have:=P.bw;omega,h3,by omega,by omega,(P.sep.nf hf).sub _ _⟩ hn96 (fun p hp=>Hmo.out p (List.mem_of_mem_take hp));rw[h1]at this;exact this
   have Hpre2:Hid (UD nb base vh vb n hs bh F (RL ad' cap' p1.length) (cap'-p1.length) (ps'.drop p1.length) w):=by
    have h3:=P.prt.sub (cap:=cap') p1.length (ps'.length-p1.length) (by omega) hcap;rw[List.take_of_length_le (by rw[List.length_drop];omega)]at h3;exact⟨P.net,P.lnb,P.bw,h3,by rw[List.length_drop];omega,by rw[List.length_drop];omega,P.sep.sub _ _⟩
   have Hb2:=hyd hb2;have HLL2:Hid (L=(L1++[(p1,e1)])++L2):=by show _=_;rw[HLL.out];simp
   have Hmo2:Hid (∀p∈ps'.drop p1.length,0<=p.mo/\p.mo<=9):=fun p hp=>Hmo.out p (List.mem_of_mem_drop hp)
   have Hlen2:Hid ((ps'.drop p1.length).length=ps'.length-p1.length):=by show _=_;rw[List.length_drop]
   have hpl1:p1.length<=ps'.length:=by omega
   clear hE hmem hp1 hbs hb1 hb2 hlen hpe P Hb Hpre HLL;go_wp2_with fail;refine Hpe.out.mono ?_;rintro en w1 ⟨rfl,hB1⟩;have S1:RW nb base vh vb vh' vb' n hs bh F E w w1 A B:=⟨S.net.below hB1,S.nf.trans (NF.of _ _ (by have:=S.net.c.lt;omega) hB1),S.a.block (hB1.block _ S.a.ltB),S.b.block (hB1.block _ S.b.ltB),S.o1,S.o2⟩;have HCp:=hyd (HLP.out w1 S1.nf S1.net);clear HLP Hpe S hB1;go_wp2_with (first|(with_reducible show wpList _ _ _ (⟨_,Op.slice 103 _ _ _ _,_,_,_,_⟩::_) _ _;refine WR rfl _ _ _ rfl ad' ps'.length cap' rfl 0 p1.length (Or.inl ⟨rfl,rfl⟩) (Or.inr ⟨_,rfl,rfl⟩) (by omega) (by omega) ?_));refine HCp.out.mono ?_;rintro en w3 ⟨vh2,vb2,rfl,N3,F3⟩;obtain⟨TA,TB,NFw,o1,o2⟩:=S1.call HC.out F3;obtain⟨b1,b2,b3⟩:=VL w3 (Y1 e1 (n+E.sz));have ht3:(w3.alloc (.cells (bl (fun _=>false) 193).toArray 142)).there w3.heap.size 0 193:=Yq (TC.boxed w3 _ _);obtain⟨L3,hL3⟩:=nam (bl (Y1 e1 (n+E.sz)) 193);obtain⟨W4,hW4⟩:=nam ((w3.alloc (.cells (bl (fun _=>false) 193).toArray 142)).setCells w3.heap.size 0 (bl (Y1 e1 (n+E.sz)) 193));rw[<-hW4]at b1 b2 b3;rw[<-hL3]at hW4 ⊢;have HL3:Hid (L3.length=193):=by show _=_;rw[hL3];exact Y7 _ _
   have HO3:Hid (L3.toArray.all (·.oneCell')=true):=by show _=true;rw[hL3];exact YO _ _
   have HW4:=hyd hW4;have hnb3:=N3.c.lt;have UA:=TA.block (b2.block A TA.ltB);have UB:=TB.block (b2.block B TB.ltB);have N4:=N3.below b2;have F4:=NFw.trans (NF.of vh2 vb2 (by omega) b2);have HCj:=hyd (TI nb base vh2 vb2 (n+E.sz+e1.sz) _ _ F (Y1 E n) (Y1 e1 (n+E.sz)) W4 N4 HC.out.g7 hn96);have HS4:=hyd3 UA UB F4;have rB:=UB.range;have rC:=b1.range;have Ho:=hyd2 o1 o2;clear UA UB N4 F4 b1 b2 b3 o1 o2 hnb3 hL3 hW4 TA TB N3 NFw S1 F3 HCp;go_wp2_with (first|(with_reducible refine gst 142 ?_;refine wpList_store_mid rfl 142 _ _ rfl w3.heap.size 0 L3.toArray rfl rfl (by simpa[HL3.out]using ht3) (by simpa[HL3.out]using Y3) HO3.out ?_;rw[List.toList_toArray,<-HW4.out])|(with_reducible refine gld 142 ?_;refine wpList_load_mid rfl 142 _ rfl B 0 rfl (bl (Y1 E n) 193) _ rB u_c rfl (by rw[Y7];exact Y3) ?_)|(with_reducible refine gld 142 ?_;refine wpList_load_mid rfl 142 _ rfl w3.heap.size 0 rfl (bl (Y1 e1 (n+E.sz)) 193) _ rC u_c rfl (by rw[Y7];exact Y3) ?_));refine HCj.out.mono ?_;rintro en w6 ⟨rfl,N6,F6⟩;obtain⟨h4a,h4b,h4f⟩:=HS4.out;obtain⟨tB,R⟩:=RW.step (e2:=e1) HC.out h4a h4b h4f Ho.out.1 Ho.out.2 N6 F6 hn96;rw[<-HE.out]at R;obtain⟨L6,hL6⟩:=nam (bl (jn (Y1 E n) (Y1 e1 (n+E.sz))) 193);rw[<-hL6]at R ⊢;have HL6:Hid (L6.length=193):=by show _=_;rw[hL6];exact Y7 _ _
   have HO6:Hid (L6.toArray.all (·.oneCell')=true):=by show _=true;rw[hL6];exact YO _ _
   clear hL6 N6 F6 h4a h4b h4f rB rC;go_wp2_with (first|(with_reducible refine gst 142 ?_;refine wpList_store_mid rfl 142 _ _ rfl B 0 L6.toArray rfl rfl (by simpa[HL6.out]using tB) (by simpa[HL6.out]using Y3) HO6.out ?_;rw[List.toList_toArray])|(with_reducible show wpList _ _ _ (⟨_,Op.slice 103 _ _ _ _,_,_,_,_⟩::_) _ _;refine WR rfl _ _ _ rfl ad' ps'.length cap' rfl p1.length ps'.length (Or.inr ⟨_,rfl,rfl⟩) (Or.inl ⟨rfl,rfl⟩) hpl1 hcap ?_));go_roundw
   case rel=>exact⟨L1++[(p1,e1)],L2,RL ad' cap' p1.length,cap'-p1.length,ps'.drop p1.length,vh2,vb2,by rw[Hlen2.out],HLL2,Hb2,Hpre2,Hmo2,R⟩
   case measure=>simp[FK];omega
end Go.Proofs.YtoaaklhpmhjhkabGreat
