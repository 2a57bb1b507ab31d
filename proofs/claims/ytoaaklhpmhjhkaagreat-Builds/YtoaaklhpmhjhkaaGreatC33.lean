import Derived.Test.YtoaaklhpmhjhkaaGreatC31
import Derived.Test.YtoaaklhpmhjhkaaGreatC32
set_option maxRecDepth 100000
set_option maxHeartbeats 4000000
set_option linter.all false
namespace Go.Proofs.YtoaaklhpmhjhkaaGreat
open Go.RowKit
open Bm
theorem q8G (es:Nat->Rx):∀n p,p<netN es n->∃k,k<n/\netN es k<=p/\p<netN es (k+1):=by
 intro n
 induction n with
 |zero=>intro p hp;simp[netN]at hp
 |succ n ih=>
  intro p hp;rcases Nat.lt_or_ge p (netN es n)with h|h
  ·obtain⟨k,h1,h2⟩:=ih p h;exact⟨k,by omega,h2⟩
  ·exact⟨n,by omega,h,hp⟩
theorem y0q (es:Nat->Rx):∀n k p b,k<n->netN es k<=p->p<netN es (k+1)->netH es n p b=(es k).has (netN es k) p b:=by
 intro n
 induction n with
 |zero=>intro k p b hk;omega
 |succ n ih=>
  intro k p b hk h1 h2;simp only[netH,hsL];by_cases e:k=n
  ·subst e;rw[if_neg (by omega)]
  ·have:=q0M es (show k+1<=n by omega);rw[if_pos (by omega)];exact ih k p b (by omega) h1 h2
theorem q4E (es:Nat->Rx):∀n k p q,k<n->netN es k<=p->p<netN es (k+1)->netB es n p q=((es k).fol (netN es k) p q || (decide (q=96+k)&&(es k).lst (netN es k) p)):=by
 intro n
 induction n with
 |zero=>intro k p b hk;omega
 |succ n ih=>
  intro k p q hk h1 h2;simp only[netB,bhR,bhL];by_cases e:k=n
  ·subst e;rw[if_neg (by omega)];simp[h2]
  ·have hm:=q0M es (show k+1<=n by omega);rw[if_pos (by omega),ih k p q (by omega) h1 h2,Rx.lst_lt (e:=es n) (o:=netN es n) (p:=p) (Or.inl (by omega))];simp
theorem q2G (es:Nat->Rx):∀n q,q<96->(netF es n q=true<->∃k,k<n/\(es k).fst (netN es k) q=true):=by
 intro n
 induction n with
 |zero=>intro q _;simp[netF]
 |succ n ih=>
  intro q hq;simp only[netF,FR,if_pos hq,Bool.or_eq_true,ih q hq];constructor
  ·rintro (⟨k,h1,h2⟩|h)
   ·exact⟨k,by omega,h2⟩
   ·exact⟨n,by omega,h⟩
  ·rintro ⟨k,h1,h2⟩;by_cases e:k=n
   ·subst e;exact Or.inr h2
   ·exact Or.inl ⟨k,by omega,h2⟩
theorem q4D (es:Nat->Rx):∀n r,netF es n (96+r)=(decide (r<n)&&(es r).nul):=by
 intro n
 induction n with
 |zero=>intro r;simp[netF]
 |succ n ih=>
  intro r;simp only[netF,FR];rw[if_neg (by omega)];by_cases e:r=n
  ·subst e;simp
  ·rw[if_neg (by omega),ih r];by_cases h:r<n
   ·simp[h,show r<n+1 by omega]
   ·simp[h,show ¬r<n+1 by omega]
structure LiveNet (P:Nat) (hs bh:Nat->Nat->Bool) (F:Nat->Bool):Prop where
 le:P<=96
 has:∀p,p<P->∃b,b<256/\hs p b=true
 rng:∀p q,p<P->q<96->bh p q=true->q<P
 rngF:∀q,q<96->F q=true->q<P
 some:∃q,q<104/\F q=true
inductive Goal (P:Nat) (bh:Nat->Nat->Bool):Nat->Prop
 |last {p r:Nat} (hp:p<P) (hr:r<8) (h:bh p (96+r)=true):Goal P bh p
 |next {p q:Nat} (hp:p<P) (hq:q<P) (h:bh p q=true) (k:Goal P bh q):Goal P bh p
theorem q8I (es:Nat->Rx) (n:Nat) (h8:n<=8) (_hP:netN es n<=96):∀p,p<netN es n->Goal (netN es n) (netB es n) p:=by
 intro p hp;obtain⟨k,hk,h1,h2⟩:=q8G es n p hp;have hR:=Rx.rch_any (es k) (netN es k) p h1 (by simpa[netN]using h2);have hmo:=q0M es (show k+1<=n from hk);clear h1 h2 hp
 induction hR with
 |last h=>
  have hr:=Rx.lst_rng (es k) _ _ h;refine Goal.last (r:=k) (by simp only[netN]at hmo;omega) (by omega) ?_;rw[q4E es n k _ _ hk hr.1 (by simp only[netN];omega)];simp[h]
 |next h _ ih=>
  have hr:=Rx.fol_rng (es k) _ _ _ h;refine Goal.next (by simp only[netN]at hmo;omega) (by simp only[netN]at hmo;omega) ?_ ih;rw[q4E es n k _ _ hk hr.1 (by simp only[netN];omega)];simp[h]
theorem q8H (es:Nat->Rx) (n:Nat) (h1:1<=n) (h8:n<=8) (hP:netN es n<=96) (hf:∀k,k<n->(es k).Full):LiveNet (netN es n) (netH es n) (netB es n) (netF es n):=by
 refine⟨hP,fun p hp=>?_,fun p q hp hq h=>?_,fun q hq h=>?_,?_⟩
 ·obtain⟨k,hk,a1,a2⟩:=q8G es n p hp;obtain⟨b,b1,b2⟩:=Rx.full_has (es k) (netN es k) p (hf k hk) a1 (by simpa[netN]using a2);exact⟨b,b1,by rw[y0q es n k p b hk a1 a2];exact b2⟩
 ·obtain⟨k,hk,a1,a2⟩:=q8G es n p hp;rw[q4E es n k p q hk a1 a2]at h;have hmo:=q0M es (show k+1<=n from hk);simp only[Bool.or_eq_true,Bool.and_eq_true,decide_eq_true_eq]at h;rcases h with h|⟨h,_⟩
  ·have:=Rx.fol_rng (es k) _ _ _ h;simp only[netN]at hmo;omega
  ·omega
 ·obtain⟨k,hk,h2⟩:=(q2G es n q hq).1 h;have hmo:=q0M es (show k+1<=n from hk);have:=Rx.fst_rng (es k) _ _ h2;simp only[netN]at hmo;omega
 ·rcases Rx.nul_or_fst (es 0) (netN es 0)with h|⟨p,h⟩
  ·exact⟨96,by omega,by have:=q4D es n 0;rw[Nat.add_zero]at this;rw[this];simp[h];omega⟩
  ·have hr:=Rx.fst_rng (es 0) _ _ h;have hmo:=q0M es (show 0+1<=n from h1);have hp:p<96:=by simp only[netN]at hmo hr;omega
   exact⟨p,by omega,(q2G es n p hp).2 ⟨0,by omega,h⟩⟩
def knL (t:List Int):Nat:=t.foldl (fun m x=>if x=(m:Int) then m+1 else m) 1
theorem q8M (t:List Int) (x:Int):knL (t++[x])=if x=(knL t:Int) then knL t+1 else knL t:=by unfold knL;rw[List.foldl_append];rfl
structure Fnd (A:(Nat->Bool)->Nat->Nat->Bool) (ls:List Nat) (s k:Nat) (l:List (Nat->Bool)) (t:List Int):Prop where
 kn:knL t=l.length
 le:∀i x,t[i]?=some x->x<=(knL (t.take i):Int)
 row:∀s',s'<s\/(s'=s/\0<k)->s'<knL (t.take (s'*ls.length))
 to:∀s' k',k'<ls.length->s'*ls.length+k'<t.length->∃f b x,l[s']?=some f/\ls[k']?=some b/\t[s'*ls.length+k']?=some x /\
  ((sameB (A f b) noB 104=true/\x=-1)\/∃(j:Nat) (g:Nat->Bool),x=j/\l[j]?=some g/\sameB g (A f b) 104=true)
variable {a : Act}{ops : Array Oper}{Q : Exit → Act → World → Prop}{l : List (Nat → Bool)}{lc ll ll' ln ln' : List Int}{rest : List Oper}{K P b cap g k mb n s : Nat}{F : Nat → Bool}{bh hs : Nat → Nat → Bool}{ob : Obj}{o op : Oper}{vc vl vn : Value}{W0 w w' w'' w5 : World}
theorem Exp.fnd {A:(Nat->Bool)->Nat->Nat->Bool}{ls:List Nat}{t:List Int} (h:Exp A F ls s k l t):Fnd A ls s k l t:=by
 induction h with
 |first=>exact⟨rfl,fun i x h=>by simp at h,fun s' h=>by omega,fun s' k' _ h=>by simp at h⟩
 |@kind s k l t f b h hf hb hr ih=>
  obtain⟨e1,e2,e3,e4,e5⟩:=h.size;have hk:=(List.getElem?_eq_some_iff.1 hb).1;have hs:=(List.getElem?_eq_some_iff.1 hf).1;have hlt:=q6h l (A f b);have hln:=q2F l (A f b);have hkn:knL (t++[numR l (A f b)])=(numL l (A f b)).length:=by
   rw[q8M,ih.kn];rcases hln with h1|⟨h1,h2⟩
   ·rw[if_neg (by omega),h1]
   ·rw[if_pos h2,h1]
  refine⟨hkn,fun i x hx=>?_,fun s' hs'=>?_,fun s' k' hk' hi=>?_⟩
  ·rcases Nat.lt_or_ge i t.length with hi|hi
   ·rw[List.getElem?_append_left hi]at hx;rw[List.take_append_of_le_length (by omega)];exact ih.le i x hx
   ·have hit:i=t.length:=by
     have:=(List.getElem?_eq_some_iff.1 hx).1;simp at this;omega
    subst hit;rw[List.getElem?_append_right (by omega)]at hx;simp at hx;rw[List.take_append_of_le_length (by omega),List.take_length,ih.kn,<-hx];omega
  ·by_cases h0:s'=s/\k=0
   ·obtain⟨rfl,rfl⟩:=h0;rw[List.take_append_of_le_length (by omega),show s'*ls.length=t.length by omega,List.take_length,ih.kn];exact hs
   ·have h1:s'<s\/(s'=s/\0<k):=by omega
    have h2:s'*ls.length<=t.length:=by
     have:s'*ls.length<=s*ls.length:=Nat.mul_le_mul_right _ (by omega);omega
    rw[List.take_append_of_le_length h2];exact ih.row s' h1
  ·rw[List.length_append,List.length_singleton]at hi;rcases Nat.lt_or_ge (s'*ls.length+k') t.length with h1|h1
   ·obtain⟨f',b',x,a1,a2,a3,a4⟩:=ih.to s' k' hk' h1;refine⟨f',b',x,q7Y a1,a2,by rw[List.getElem?_append_left h1];exact a3,?_⟩;rcases a4 with a4|⟨j,g,c1,c2,c3⟩
    ·exact Or.inl a4
    ·exact Or.inr ⟨j,g,c1,q7Y c2,c3⟩
   ·have hit:s'*ls.length+k'=s*ls.length+k:=by omega
    have hss:s'=s/\k'=k:=by
     have d1:=q5y (s:=s') hk';have d2:=q5y (s:=s) hk;rw[hit]at d1;exact⟨d1.1.symm.trans d2.1,d1.2.symm.trans d2.2⟩
    obtain⟨rfl,rfl⟩:=hss;refine⟨f,b,numR l (A f b),q7Y hf,hb,by rw[show s'*ls.length+k'=t.length by omega];simp,?_⟩;cases hn:sameB (A f b) noB 104
    ·obtain⟨j,g,c1,c2,c3⟩:=y2I (l:=l) hn;exact Or.inr ⟨j,g,c1,c2,c3⟩
    ·exact Or.inl ⟨rfl,by unfold numR;rw[if_pos hn]⟩
 |@set s l t h hs ih=>
  obtain⟨e1,e2,e3,e4,e5⟩:=h.size;refine⟨ih.kn,ih.le,fun s' hs'=>?_,ih.to⟩;by_cases h0:s'<s
  ·exact ih.row s' (Or.inl h0)
  ·have hss:s'=s:=by omega
   subst hss;rcases Nat.eq_zero_or_pos ls.length with hz|hz
   ·rw[hz,Nat.mul_zero,List.take_zero];have:t=[]:=List.eq_nil_of_length_eq_zero (by rw[e3,hz];simp);have hk:=ih.kn;rw[this]at hk;rw[hk];exact hs
   ·exact ih.row s' (Or.inr ⟨rfl,hz⟩)
def autOf (l:List (Nat->Bool)) (t:List Int) (K:Nat):Aut:=⟨l.length,K,fun s k=>t.getD (s*K+k) (-1),fun s=>vdF (fun r=>(l.getD s noB) (96+r)) 8 0⟩
theorem q6H (l:List (Nat->Bool)) (t:List Int) (K i:Nat) (_hK:0<K):fl (autOf l t K) i=t.getD i (-1):=by
 unfold fl autOf;simp only;rw[Nat.mul_comm,Nat.div_add_mod]
theorem q6G (l:List (Nat->Bool)) (t:List Int) (K:Nat) (hK:0<K):∀i,i<=t.length->kn (autOf l t K) i=knL (t.take i):=by
 intro i
 induction i with
 |zero=>intro _;rfl
 |succ i ih=>
  intro hi;have hi':i<t.length:=by omega
  rw[kn,ih (by omega),q6H l t K i hK,List.take_succ,List.getElem?_eq_getElem hi'];simp only[Option.toList_some];rw[q8M,List.getD_eq_getElem?_getD,List.getElem?_eq_getElem hi'];rfl
theorem y0Z {A:(Nat->Bool)->Nat->Nat->Bool}{ls:List Nat}{t:List Int} (hK:0<ls.length) (h:Exp A F ls l.length 0 l t):Bfs (autOf l t ls.length):=by
 obtain⟨e1,e2,e3,e4,e5⟩:=h.size;have hf:=h.fnd;have htl:t.length=l.length*ls.length:=by omega
 refine⟨e1,fun i hi=>?_,fun s hs=>?_,?_⟩
 ·have hi':i<t.length:=by rw[htl];exact hi
  rw[q6H _ _ _ _ hK,q6G _ _ _ hK i (by omega),List.getD_eq_getElem?_getD,List.getElem?_eq_getElem hi'];exact hf.le i t[i] (List.getElem?_eq_getElem hi')
 ·have hm:s*ls.length<=l.length*ls.length:=Nat.mul_le_mul_right _ (Nat.le_of_lt hs);show s<kn (autOf l t ls.length) (s*ls.length);rw[q6G _ _ _ hK _ (by omega)];exact hf.row s (Or.inl hs)
 ·show kn (autOf l t ls.length) (l.length*ls.length)=l.length;rw[q6G _ _ _ hK _ (by omega),List.take_of_length_le (by omega)];exact hf.kn
theorem q5I {f:Nat->Bool}:∀u r x,r<=x->x<r+u->f x=true->vdF f u r≠-1
 |0,r,x,h1,h2,_=>by omega
 |u+1,r,x,h1,h2,h=>by
  rw[vdF];split
  ·omega
  ·rename_i hr;have:r≠x:=fun e=>hr (by rw[e];exact h)
   exact q5I u (r+1) x (by omega) (by omega) h
def Reps (hs:Nat->Nat->Bool) (P:Nat) (ls:List Nat):Prop:=∀b,b<256->∃(k c:Nat),ls[k]?=some c/\∀p,p<P->hs p c=hs p b
theorem y1T {ls:List Nat} (hL:LiveNet P hs bh F) {s k:Nat}{l:List (Nat->Bool)}{t:List Int} (h:Exp (fun f b=>aftTo hs bh f b P) F ls s k l t):∀g∈l,(∃q,q<104/\g q=true)/\∀q,q<96->g q=true->q<P:=by
 induction h with
 |first=>intro g hg;rw[List.mem_singleton.1 hg];exact⟨hL.some,hL.rngF⟩
 |@kind s k l t f b h hf hb hr ih=>
  intro g hg;unfold numL at hg;split at hg
  ·exact ih g hg
  ·rename_i hne;split at hg
   ·exact ih g hg
   ·rcases List.mem_append.1 hg with h1|h1
    ·exact ih g h1
    ·rw[List.mem_singleton.1 h1];refine⟨?_,fun q hq hb2=>?_⟩
     ·apply Classical.byContradiction;intro hn;apply hne;rw[q1x];intro q hq;cases hv:aftTo hs bh f b P q
      ·rfl
      ·exact absurd ⟨q,hq,hv⟩ hn
     ·simp only[aftTo,List.any_eq_true,List.mem_range,Bool.and_eq_true]at hb2;obtain⟨p,hp,⟨_,_⟩,h3⟩:=hb2;exact hL.rng p q hp hq h3
 |set h hs ih=>exact ih
theorem q5C {ls:List Nat} (hL:LiveNet P hs bh F) (hG:∀p,p<P->Goal P bh p) (hR:Reps hs P ls) {l:List (Nat->Bool)}{t:List Int} (h:Exp (fun f b=>aftTo hs bh f b P) F ls l.length 0 l t):(autOf l t ls.length).Good:=by
 obtain⟨e1,e2,e3,e4,e5⟩:=h.size;have hf:=h.fnd;have hbits:=y1T hL h;have hrg:=h.range;have hidx:∀s k,s<l.length->k<ls.length->s*ls.length+k<t.length:=fun s k h1 h2=>by
  have:(s+1)*ls.length<=l.length*ls.length:=Nat.mul_le_mul_right _ h1;rw[Nat.add_mul]at this;omega
 have hto:∀s k,s<l.length->k<ls.length->(autOf l t ls.length).to s k=t[s*ls.length+k]?.getD (-1):=fun s k _ _=>by simp[autOf,List.getD_eq_getElem?_getD]
 refine⟨fun s k h1 h2=>?_,fun s hs' hal=>?_⟩
 ·have hi:=hidx s k h1 h2;rw[hto s k h1 h2,List.getElem?_eq_getElem hi];exact hrg _ (List.getElem_mem hi)
 ·-- from a place an end can be come to
  have key:∀(p:Nat),Goal P bh p->∀(s:Nat) (f:Nat->Bool),l[s]?=some f->f p=true->∃w,Kd (autOf l t ls.length) w/\ext (autOf l t ls.length) s w≠-1:=by
   have step:∀(p:Nat),p<P->∀(s:Nat) (f:Nat->Bool),l[s]?=some f->f p=true->∀(q:Nat),q<104->bh p q=true->∃(k:Nat),k<ls.length/\∃(j:Nat) (g:Nat->Bool),(autOf l t ls.length).to s k=j/\l[j]?=some g/\g q=true:=by
    intro p hp s f hsf hfp q hq hpq;obtain⟨b,b1,b2⟩:=hL.has p hp;obtain⟨k,c,hk,hc⟩:=hR b b1;have hkl:=(List.getElem?_eq_some_iff.1 hk).1;have hsl:=(List.getElem?_eq_some_iff.1 hsf).1;have hi:=hidx s k hsl hkl;obtain⟨f',b',x,a1,a2,a3,a4⟩:=hf.to s k hkl hi;rw[hsf]at a1;rw[hk]at a2;cases a1;cases a2;have hbit:aftTo hs bh f c P q=true:=by
     simp only[aftTo,List.any_eq_true,List.mem_range,Bool.and_eq_true];exact⟨p,hp,⟨hfp,by rw[hc p hp];exact b2⟩,hpq⟩
    rcases a4 with ⟨a4,_⟩|⟨j,g,c1,c2,c3⟩
    ·have:=(q1x _ _ _).1 a4 q hq;rw[hbit]at this;cases this
    ·refine⟨k,hkl,j,g,by rw[hto s k hsl hkl,a3];exact c1,c2,?_⟩;rw[(q1x _ _ _).1 c3 q hq];exact hbit
   intro p hg
   induction hg with
   |@last p r hp hr hb=>
    intro s f hsf hfp;obtain⟨k,hk,j,g,h1,h2,h3⟩:=step p hp s f hsf hfp (96+r) (by omega) hb;refine⟨[k],(Kd.nil _).cons hk,?_⟩;rw[ext_cons,h1,ext_nil];show vdF (fun r=>(l.getD j noB) (96+r)) 8 0≠-1;exact q5I 8 0 r (by omega) (by omega) (by rw[List.getD_eq_getElem?_getD,h2];exact h3)
   |@next p q hp hq hb _ ih=>
    intro s f hsf hfp;obtain⟨k,hk,j,g,h1,h2,h3⟩:=step p hp s f hsf hfp q (by have:=hL.le;omega) hb;obtain⟨w,w1,w2⟩:=ih j g h2 h3;exact⟨k::w,w1.cons hk,by rw[ext_cons,h1];exact w2⟩
  have hsl:=hs';have hgs:=List.getElem?_eq_getElem hsl;obtain⟨⟨q,hq,hv⟩,hb⟩:=hbits l[s] (List.getElem_mem hsl);have:∃w,Kd (autOf l t ls.length) w/\ext (autOf l t ls.length) s w≠-1:=by
   rcases Nat.lt_or_ge q 96 with h1|h1
   ·exact key q (hG q (hb q h1 hv)) s l[s] hgs hv
   ·refine⟨[],Kd.nil _,?_⟩;rw[ext_nil];show vdF (fun r=>(l.getD s noB) (96+r)) 8 0≠-1;refine q5I 8 0 (q-96) (by omega) (by omega) ?_;rw[List.getD_eq_getElem?_getD,hgs,show 96+(q-96)=q by omega];exact hv
  obtain⟨w,w1,w2⟩:=this;exact w2 (by rw[hal w w1];exact ext_none _ _ (by omega))
theorem q1i (w:World):(zeroValue 25).run Tryz.prog w=.ok (.agg #[.int .i64 0,.slice none 0 0,.slice none 0 0,.slice none 0 0]) w:=by kernel_rfl
theorem q0D:(Tryz.prog.info? 25).map (·.size)=some 4:=by kernel_rfl
def kl (f:Nat->Int):List Value:=(List.range 256).map fun i=>.int .i64 (f i)
theorem y2m (f:Nat->Int):(kl f).length=256:=by simp[kl]
theorem y2P:(Tryz.prog.info? 140).map (·.size)=some 256:=by kernel_rfl
theorem y2y (f:Nat->Int) (k:Nat) (hk:k<256) (w:World):(Instr.index 140 (.agg (kl f).toArray) (.int .i64 k)).run Tryz.prog w=.ok (.int .i64 (f k)) w:=by
 have hs:(sizeOf 3).run Tryz.prog w=.ok 1 w:=by kernel_rfl
 have hg:(kl f).toArray[k]?=some (.int .i64 (f k)):=by simp[kl,hk]
 have hp:(part 3 (kl f).toArray (k*1)).run Tryz.prog w=.ok (.int .i64 (f k)) w:=run_part_plain w (by kernel_rfl) (by rw[Nat.mul_one];exact hg);simp only[Instr.index,asIntOf,Sem.run_bind,Sem.run_pure,Result.andThen_ok,run_underlying Tryz.underlying140,Sem.run_ite,hs];rw[if_pos (by omega),Int.toNat_natCast];exact hp
theorem q9d (hgd:op.guard=none) (x i:Operand) (ho:op.op=.index 140 x i) (f:Nat->Int) (hx:a.eval x=.agg (kl f).toArray) (k:Nat) (hi:a.eval i=.int .i64 k) (hk:k<256)
  (h:wpList Tryz.prog ops Q rest (a.put op.dst (.int .i64 (f k))) w):wpList Tryz.prog ops Q (op::rest) a w:=
 wpList_plain hgd fun _ hK=>by
  unfold Oper.wp execOp;have hq:=y2y f k hk w;simp only[ho,hx,hi,Sem.run_bind,hq,Result.andThen_ok,Sem.run_pure];exact hK _ _ h
theorem q1a (x:Operand) (ho:o.op=.buildSlice 23 1 #[(0,x)]) (v:Int) (hx:a.eval x=.int .i64 v):
  (execOp a.eval o).run Tryz.prog w=.ok (.value (.slice (some ⟨w.heap.size,0,none⟩) 1 1)) (w.alloc (.cells #[.int .i64 v] 3)):=by
 unfold execOp;have hq:(Instr.buildSlice 23 1 #[(0,.int .i64 v)]).run Tryz.prog w=.ok (.slice (some ⟨w.heap.size,0,none⟩) 1 1) (w.alloc (.cells #[.int .i64 v] 3)):=by kernel_rfl
 have e:(#[((0:Nat),x)].map fun(p:Nat × Operand)=>(p.1,a.eval p.2))=#[(0,.int .i64 v)]:=by simp[hx]
 simp only[ho,Sem.run_bind,e,hq,Result.andThen_ok,Sem.run_pure]
structure MS (mb:Nat) (W0:World) (vc vl vn:Value) (lc ll ln:List Int) (w':World):Prop where
 c:TC mb [.int .i64 0,vc,vl,vn] w'
 oc:OwnL W0.heap.size vc lc w'
 ol:OwnL W0.heap.size vl ll w'
 on:OwnL W0.heap.size vn ln w'
 n1:∀k,vc.ownBlock=some k->vl.ownBlock≠some k
 n2:∀k,vc.ownBlock=some k->vn.ownBlock≠some k
 n3:∀k,vl.ownBlock=some k->vn.ownBlock≠some k
 b:Below mb W0 w'
 k:∀k,k<W0.heap.size->k≠mb->w'.heap[k]?=W0.heap[k]?
theorem MS.below (h:MS mb W0 vc vl vn lc ll ln w') (hW:Below w'.heap.size w' w'') (hm:mb<W0.heap.size):MS mb W0 vc vl vn lc ll ln w'':=
 ⟨h.c.below hW,h.oc.below hW,h.ol.below hW,h.on.below hW,h.n1,h.n2,h.n3,h.b.trans (hW.mono (by have:=h.b.size;omega)),fun k h1 h2=>by rw[hW.block k (by have:=h.b.size;omega)];exact h.k k h1 h2⟩
theorem MS.put1 {lc':List Int} (h:MS mb W0 vc vl vn lc ll ln w') (hm:mb<W0.heap.size) (h5:OwnL W0.heap.size (.slice (some ⟨g,0,none⟩) n cap) lc' w5) (hg:(w'.alloc ob).grownBy w5 vc.ownBlock) (hgb:vc.ownBlock=some g\/g=(w'.alloc ob).heap.size):
  w5.cell? ⟨mb,1,none⟩=some vc/\w5.frozen? ⟨mb,1,none⟩=false/\MS mb W0 (.slice (some ⟨g,0,none⟩) n cap) vl vn lc' ll ln (w5.setCell ⟨mb,1,none⟩ (.slice (some ⟨g,0,none⟩) n cap)):=by
 have x:=box_bel w' ob;have hz:(w'.alloc ob).heap.size=w'.heap.size+1:=by simp
 have a:=h.below x hm;have hvb:=h.oc.blk;have hlb:=h.ol.blk;have hnb:=h.on.blk;have hs:=h.b.size;have hcell:=a.c.block (hg.block _ a.c.lt (fun e=>by have:=(hvb _ e.symm).1;omega));obtain⟨c1,c2⟩:=hcell 1 _ rfl;have hb6:∀q,q≠mb->(w5.setCell ⟨mb,1,none⟩ (.slice (some ⟨g,0,none⟩) n cap)).heap[q]?=w5.heap[q]?:=fun q hq=>Below.heap_setCell w5 ⟨mb,1,none⟩ _ q (fun e=>hq e)
 have hg5:=(h5.blk g rfl).1;refine⟨c1,c2,hcell.set 1 (by simp) _,h5.keep (fun q hq=>hb6 q (by cases hq;show g≠mb;omega)),(a.ol.grown hg (fun q hq e=>h.n1 q e hq)).keep (fun q hq=>hb6 q (fun e=>by have:=(hlb q hq).1;omega)),(a.on.grown hg (fun q hq e=>h.n2 q e hq)).keep (fun q hq=>hb6 q (fun e=>by have:=(hnb q hq).1;omega)),fun q hq e=>?_,fun q hq e=>?_,h.n3,?_,fun q h1 h2=>?_⟩
 ·have e2:=Option.some.inj hq;subst e2;rcases hgb with h1|h1
  ·exact h.n1 g h1 e
  ·have:=(hlb g e).2;omega
 ·have e2:=Option.some.inj hq;subst e2;rcases hgb with h1|h1
  ·exact h.n2 g h1 e
  ·have:=(hnb g e).2;omega
 ·exact(a.b.grown hg (by have:=a.b.size;omega) (fun q hq=>by have:=(hvb q hq).1;omega)).setCell (p:=⟨mb,1,none⟩) (Nat.le_refl _) _
 ·rw[hb6 q h2,hg.block q (by omega) (fun e=>by have:=(hvb q e.symm).1;omega)];exact a.k q h1 h2
theorem MS.put2 (h:MS mb W0 vc vl vn lc ll ln w') (hm:mb<W0.heap.size) (h5:OwnL W0.heap.size (.slice (some ⟨g,0,none⟩) n cap) ll' w5) (hg:(w'.alloc ob).grownBy w5 vl.ownBlock) (hgb:vl.ownBlock=some g\/g=(w'.alloc ob).heap.size):
  w5.cell? ⟨mb,2,none⟩=some vl/\w5.frozen? ⟨mb,2,none⟩=false/\MS mb W0 vc (.slice (some ⟨g,0,none⟩) n cap) vn lc ll' ln (w5.setCell ⟨mb,2,none⟩ (.slice (some ⟨g,0,none⟩) n cap)):=by
 have x:=box_bel w' ob;have hz:(w'.alloc ob).heap.size=w'.heap.size+1:=by simp
 have a:=h.below x hm;have hvb:=h.ol.blk;have hlb:=h.oc.blk;have hnb:=h.on.blk;have hs:=h.b.size;have hcell:=a.c.block (hg.block _ a.c.lt (fun e=>by have:=(hvb _ e.symm).1;omega));obtain⟨c1,c2⟩:=hcell 2 _ rfl;have hb6:∀q,q≠mb->(w5.setCell ⟨mb,2,none⟩ (.slice (some ⟨g,0,none⟩) n cap)).heap[q]?=w5.heap[q]?:=fun q hq=>Below.heap_setCell w5 ⟨mb,2,none⟩ _ q (fun e=>hq e)
 have hg5:=(h5.blk g rfl).1;refine⟨c1,c2,hcell.set 2 (by simp) _,(a.oc.grown hg (fun q hq e=>h.n1 q hq e)).keep (fun q hq=>hb6 q (fun e=>by have:=(hlb q hq).1;omega)),h5.keep (fun q hq=>hb6 q (by cases hq;show g≠mb;omega)),(a.on.grown hg (fun q hq e=>h.n3 q e hq)).keep (fun q hq=>hb6 q (fun e=>by have:=(hnb q hq).1;omega)),fun q hq e=>?_,h.n2,fun q hq e=>?_,?_,fun q h1 h2=>?_⟩
 ·have e2:=Option.some.inj e;subst e2;rcases hgb with h1|h1
  ·exact h.n1 g hq h1
  ·have:=(hlb g hq).2;omega
 ·have e2:=Option.some.inj hq;subst e2;rcases hgb with h1|h1
  ·exact h.n3 g h1 e
  ·have:=(hnb g e).2;omega
 ·exact(a.b.grown hg (by have:=a.b.size;omega) (fun q hq=>by have:=(hvb q hq).1;omega)).setCell (p:=⟨mb,2,none⟩) (Nat.le_refl _) _
 ·rw[hb6 q h2,hg.block q (by omega) (fun e=>by have:=(hvb q e.symm).1;omega)];exact a.k q h1 h2
theorem MS.put3 (h:MS mb W0 vc vl vn lc ll ln w') (hm:mb<W0.heap.size) (h5:OwnL W0.heap.size (.slice (some ⟨g,0,none⟩) n cap) ln' w5) (hg:(w'.alloc ob).grownBy w5 vn.ownBlock) (hgb:vn.ownBlock=some g\/g=(w'.alloc ob).heap.size):
  w5.cell? ⟨mb,3,none⟩=some vn/\w5.frozen? ⟨mb,3,none⟩=false/\MS mb W0 vc vl (.slice (some ⟨g,0,none⟩) n cap) lc ll ln' (w5.setCell ⟨mb,3,none⟩ (.slice (some ⟨g,0,none⟩) n cap)):=by
 have x:=box_bel w' ob;have hz:(w'.alloc ob).heap.size=w'.heap.size+1:=by simp
 have a:=h.below x hm;have hvb:=h.on.blk;have hlb:=h.oc.blk;have hnb:=h.ol.blk;have hs:=h.b.size;have hcell:=a.c.block (hg.block _ a.c.lt (fun e=>by have:=(hvb _ e.symm).1;omega));obtain⟨c1,c2⟩:=hcell 3 _ rfl;have hb6:∀q,q≠mb->(w5.setCell ⟨mb,3,none⟩ (.slice (some ⟨g,0,none⟩) n cap)).heap[q]?=w5.heap[q]?:=fun q hq=>Below.heap_setCell w5 ⟨mb,3,none⟩ _ q (fun e=>hq e)
 have hg5:=(h5.blk g rfl).1;refine⟨c1,c2,hcell.set 3 (by simp) _,(a.oc.grown hg (fun q hq e=>h.n2 q hq e)).keep (fun q hq=>hb6 q (fun e=>by have:=(hlb q hq).1;omega)),(a.ol.grown hg (fun q hq e=>h.n3 q hq e)).keep (fun q hq=>hb6 q (fun e=>by have:=(hnb q hq).1;omega)),h5.keep (fun q hq=>hb6 q (by cases hq;show g≠mb;omega)),h.n1,fun q hq e=>?_,fun q hq e=>?_,?_,fun q h1 h2=>?_⟩
 ·have e2:=Option.some.inj e;subst e2;rcases hgb with h1|h1
  ·exact h.n2 g hq h1
  ·have:=(hlb g hq).2;omega
 ·have e2:=Option.some.inj e;subst e2;rcases hgb with h1|h1
  ·exact h.n3 g hq h1
  ·have:=(hnb g hq).2;omega
 ·exact(a.b.grown hg (by have:=a.b.size;omega) (fun q hq=>by have:=(hvb q hq).1;omega)).setCell (p:=⟨mb,3,none⟩) (Nat.le_refl _) _
 ·rw[hb6 q h2,hg.block q (by omega) (fun e=>by have:=(hvb q e.symm).1;omega)];exact a.k q h1 h2
end Go.Proofs.YtoaaklhpmhjhkaaGreat
namespace Go.Proofs.YtoaaklhpmhjhkaaGreat
open Bm
variable {l : List (Nat → Bool)}{K b k s : Nat}{F : Nat → Bool}
theorem q6A {a c d:Nat} (hb:b<K) (hd:d<K) (h:a*K+b=c*K+d):a=c/\b=d:=by
 have h1:(a*K+b)/K=a:=by rw[Nat.mul_comm,Nat.mul_add_div (by omega),Nat.div_eq_of_lt hb,Nat.add_zero]
 have h2:(c*K+d)/K=c:=by rw[Nat.mul_comm,Nat.mul_add_div (by omega),Nat.div_eq_of_lt hd,Nat.add_zero]
 have:a=c:=by rw[<-h1,<-h2,h]
 subst this;exact⟨rfl,by omega⟩
theorem Exp.det {A:(Nat->Bool)->Nat->Nat->Bool}{ls:List Nat}{t:List Int} (h:Exp A F ls s k l t):
  ∀ {s' k':Nat}{l':List (Nat->Bool)}{t':List Int},Exp A F ls s' k' l' t'->t.length=t'.length->l=l'/\t=t':=by
 induction h with
 |first=>
  intro s' k' l' t' h' hl
  induction h' with
  |first=>exact⟨rfl,rfl⟩
  |kind h hf hb hr ih=>simp at hl
  |set h hs ih=>exact ih hl
 |kind h hf hb hr ih=>
  rename_i s k l t f b;intro s' k' l' t' h' hl
  induction h' with
  |first=>simp at hl
  |kind h2 hf2 hb2 hr2 ih2=>
   rename_i s2 k2 l2 t2 f2 b2;simp only[List.length_append,List.length_singleton,Nat.add_right_cancel_iff]at hl;obtain⟨rfl,rfl⟩:=ih h2 hl;have e1:=h.size.2.2.1;have e2:=h2.size.2.2.1;have k1:=(List.getElem?_eq_some_iff.1 hb).1;have k2':=(List.getElem?_eq_some_iff.1 hb2).1;obtain⟨rfl,rfl⟩:=q6A k1 k2' (e1.symm.trans e2);rw[hf]at hf2;rw[hb]at hb2;cases hf2;cases hb2;exact⟨rfl,rfl⟩
  |set h2 hs ih2=>exact ih2 hl
 |set h hs ih=>exact fun h' hl=>ih h' hl
theorem Exp.upto {A:(Nat->Bool)->Nat->Nat->Bool}{ls:List Nat}{t:List Int} (h:Exp A F ls s k l t) (n:Nat) (hn:n<t.length):
  ∃s' k' l' t' f b,Exp A F ls s' k' l' t'/\t'.length=n/\l'[s']?=some f/\ls[k']?=some b/\numR l' (A f b)<200:=by
 induction h with
 |first=>simp at hn
 |kind h hf hb hr ih=>
  rename_i s k l t f b;simp only[List.length_append,List.length_singleton]at hn;by_cases e:n=t.length
  ·exact⟨s,k,l,t,f,b,h,e.symm,hf,hb,hr⟩
  ·exact ih (by omega)
 |set h hs ih=>exact ih hn
theorem Exp.no_more {A:(Nat->Bool)->Nat->Nat->Bool}{ls:List Nat}{t:List Int} (hK:0<ls.length) (h:Exp A F ls l.length 0 l t)
  {s k:Nat}{l2:List (Nat->Bool)}{t2:List Int}{f:Nat->Bool}{b:Nat} (h2:Exp A F ls s k l2 t2) (hl:t2.length=t.length) (hf:l2[s]?=some f) (hb:ls[k]?=some b):False:=by
 obtain⟨rfl,rfl⟩:=h2.det h hl;have e1:=h.size.2.2.1;have e2:=h2.size.2.2.1;have k1:=(List.getElem?_eq_some_iff.1 hb).1;obtain⟨e,_⟩:=q6A k1 hK (e2.symm.trans e1);have:=(List.getElem?_eq_some_iff.1 hf).1;omega
theorem Exp.not_both {A:(Nat->Bool)->Nat->Nat->Bool}{ls:List Nat}{t:List Int} (hK:0<ls.length) (h:Exp A F ls l.length 0 l t)
  {s k:Nat}{l2:List (Nat->Bool)}{t2:List Int}{f:Nat->Bool}{b:Nat} (h2:Exp A F ls s k l2 t2) (hf:l2[s]?=some f) (hb:ls[k]?=some b) (hr:200<=numR l2 (A f b)):False:=by
 rcases Nat.lt_trichotomy t2.length t.length with hlt|he|hgt
 ·obtain⟨s',k',l',t',f',b',h3,e3,hf',hb',hr'⟩:=h.upto _ hlt;obtain⟨rfl,rfl⟩:=h3.det h2 e3;have k1:=(List.getElem?_eq_some_iff.1 hb).1;have k2:=(List.getElem?_eq_some_iff.1 hb').1;obtain⟨rfl,rfl⟩:=q6A k2 k1 (h3.size.2.2.1.symm.trans h2.size.2.2.1);rw[hf]at hf';rw[hb]at hb';cases hf';cases hb';omega
 ·exact Exp.no_more hK h h2 he hf hb
 ·obtain⟨s',k',l',t',f',b',h3,e3,hf',hb',_⟩:=h2.upto _ hgt;exact Exp.no_more hK h h3 e3 hf' hb'
theorem Exp.one_end {A:(Nat->Bool)->Nat->Nat->Bool}{ls:List Nat}{l2:List (Nat->Bool)}{t t2:List Int} (hK:0<ls.length) (h:Exp A F ls l.length 0 l t) (h2:Exp A F ls l2.length 0 l2 t2):l=l2/\t=t2:=by
 rcases Nat.lt_trichotomy t2.length t.length with hlt|he|hgt
 ·obtain⟨s',k',l',t',f',b',h3,e3,hf',hb',_⟩:=h.upto _ hlt;exact(Exp.no_more hK h2 h3 e3 hf' hb').elim
 ·exact h.det h2 he.symm
 ·obtain⟨s',k',l',t',f',b',h3,e3,hf',hb',_⟩:=h2.upto _ hgt;exact(Exp.no_more hK h h3 e3 hf' hb').elim
end Go.Proofs.YtoaaklhpmhjhkaaGreat
