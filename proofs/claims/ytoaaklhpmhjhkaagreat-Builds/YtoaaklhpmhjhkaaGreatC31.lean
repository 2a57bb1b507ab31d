import Derived.Test.YtoaaklhpmhjhkaaGreatC29
import Derived.Test.YtoaaklhpmhjhkaaGreatC30
set_option maxRecDepth 100000
set_option maxHeartbeats 4000000
set_option linter.all false
namespace Go.Proofs.YtoaaklhpmhjhkaaGreat
open Go.RowKit
open Bm
theorem q8G (es:Nat->Rx):∀n p,p<netN es n->∃k,k<n/\netN es k<=p/\p<netN es (k+1):=by
 intro n
 induction n with
 |zero=>intro p a;simp[netN]at a
 |succ n ih=>
  intro p a;rcases Nat.lt_or_ge p (netN es n)with h|h
  ·obtain⟨k,c,b⟩:=ih p h;exact⟨k,by omega,b⟩
  exact⟨n,by omega,h,a⟩
theorem y0q (es:Nat->Rx):∀n k p b,k<n->netN es k<=p->p<netN es (k+1)->netH es n p b=(es k).has (netN es k) p b:=by
 intro n
 induction n with
 |zero=>intro k p b d;omega
 |succ n ih=>
  intro k p b d a c;simp only[netH,hsL];by_cases e:k=n
  ·subst e;rw[if_neg (by omega)]
  have:=q0M es (show k+1<=n by omega);rw[if_pos (by omega)];exact ih k p b (by omega) a c
theorem q4E (es:Nat->Rx):∀n k p q,k<n->netN es k<=p->p<netN es (k+1)->netB es n p q=((es k).fol (netN es k) p q || (decide (q=96+k)&&(es k).lst (netN es k) p)):=by
 intro n
 induction n with
 |zero=>intro k p b d;omega
 |succ n ih=>
  intro k p q d c a;simp only[netB,bhR,bhL];by_cases e:k=n
  ·subst e;rw[if_neg (by omega)];simp[a]
  have f:=q0M es (show k+1<=n by omega);rw[if_pos (by omega),ih k p q (by omega) c a,Rx.lst_lt (e:=es n) (o:=netN es n) (p:=p) (Or.inl (by omega))];simp
theorem q2G (es:Nat->Rx):∀n q,q<96->(netF es n q=true<->∃k,k<n/\(es k).fst (netN es k) q=true):=by
 intro n
 induction n with
 |zero=>intro q _;simp[netF]
 |succ n ih=>
  intro q b;simp only[netF,FR,if_pos b,Bool.or_eq_true,ih q b];constructor
  ·rintro (⟨k,c,a⟩|h)
   ·exact⟨k,by omega,a⟩
   exact⟨n,by omega,h⟩
  rintro ⟨k,c,a⟩;by_cases e:k=n
  ·subst e;exact Or.inr a
  exact Or.inl ⟨k,by omega,a⟩
theorem q4D (es:Nat->Rx):∀n r,netF es n (96+r)=(decide (r<n)&&(es r).nul):=by
 intro n
 induction n with
 |zero=>intro r;simp[netF]
 |succ n ih=>
  intro r;simp only[netF,FR];rw[if_neg (by omega)];by_cases e:r=n
  ·subst e;simp
  rw[if_neg (by omega),ih r];by_cases h:r<n
  ·simp[h,show r<n+1 by omega]
  simp[h,show ¬r<n+1 by omega]
structure LiveNet (P:Nat) (hs bh:Nat->Nat->Bool) (F:Nat->Bool):Prop where
 le:P<=96
 has:∀p,p<P->∃b,b<256/\hs p b=true
 rng:∀p q,p<P->q<96->bh p q=true->q<P
 rngF:∀q,q<96->F q=true->q<P
 some:∃q,q<104/\F q=true
inductive Goal (P:Nat) (bh:Nat->Nat->Bool):Nat->Prop
 |last {p r:Nat} (hp:p<P) (hr:r<8) (h:bh p (96+r)=true):Goal P bh p
 |next {p q:Nat} (hp:p<P) (hq:q<P) (h:bh p q=true) (k:Goal P bh q):Goal P bh p
theorem q8I (es:Nat->Rx) (n:Nat) (h8:n<=8) (_hP:netN es n<=96):∀p,p<netN es n->Goal (netN es n) (netB es n) p:=by
 intro p f;obtain⟨k,b,d,e⟩:=q8G es n p f;have g:=Rx.rch_any (es k) (netN es k) p d (by simpa[netN]using e);have a:=q0M es (show k+1<=n from b);clear d e f
 induction g with
 |last h=>
  have c:=Rx.lst_rng (es k) _ _ h;refine Goal.last (r:=k) (by simp only[netN]at a;omega) (by omega) ?_;rw[q4E es n k _ _ b c.1 (by simp only[netN];omega)];simp[h]
 |next h _ ih=>
  have c:=Rx.fol_rng (es k) _ _ _ h;refine Goal.next (by simp only[netN]at a;omega) (by simp only[netN]at a;omega) ?_ ih;rw[q4E es n k _ _ b c.1 (by simp only[netN];omega)];simp[h]
theorem q8H (es:Nat->Rx) (n:Nat) (h1:1<=n) (h8:n<=8) (hP:netN es n<=96) (hf:∀k,k<n->(es k).Full):LiveNet (netN es n) (netH es n) (netB es n) (netF es n):=by
 refine⟨hP,λp d=>?_,λp q d g h=>?_,λq g h=>?_,?_⟩
 ·obtain⟨k,c,e,f⟩:=q8G es n p d;obtain⟨b,i,j⟩:=Rx.full_has (es k) (netN es k) p (hf k c) e (by simpa[netN]using f);exact⟨b,i,by rw[y0q es n k p b c e f];exact j⟩
 ·obtain⟨k,c,e,f⟩:=q8G es n p d;rw[q4E es n k p q c e f]at h;have a:=q0M es (show k+1<=n from c);simp only[Bool.or_eq_true,Bool.and_eq_true,decide_eq_true_eq]at h;rcases h with h|⟨h,_⟩
  ·have:=Rx.fol_rng (es k) _ _ _ h;simp only[netN]at a;omega
  omega
 ·obtain⟨k,c,l⟩:=(q2G es n q g).1 h;have a:=q0M es (show k+1<=n from c);have:=Rx.fst_rng (es k) _ _ l;simp only[netN]at a;omega
 rcases Rx.nul_or_fst (es 0) (netN es 0)with h|⟨p,h⟩
 ·exact⟨96,by omega,by have:=q4D es n 0;rw[Nat.add_zero]at this;rw[this];simp[h];omega⟩
 have m:=Rx.fst_rng (es 0) _ _ h;have a:=q0M es (show 0+1<=n from h1);have d:p<96:=by simp only[netN]at a m;omega
 exact⟨p,by omega,(q2G es n p d).2 ⟨0,by omega,h⟩⟩
def knL (t:List Int):Nat:=t.foldl (λm x=>if x=(m:Int) then m+1 else m) 1
theorem q8M (t:List Int) (x:Int):knL (t++[x])=if x=(knL t:Int) then knL t+1 else knL t:=by unfold knL;rw[List.foldl_append];rfl
structure Fnd (A:(Nat->Bool)->Nat->Nat->Bool) (ls:List Nat) (s k:Nat) (l:List (Nat->Bool)) (t:List Int):Prop where
 kn:knL t=l.length
 le:∀i x,t[i]?=some x->x<=(knL (t.take i):Int)
 row:∀s',s'<s\/(s'=s/\0<k)->s'<knL (t.take (s'*ls.length))
 to:∀s' k',k'<ls.length->s'*ls.length+k'<t.length->∃f b x,l[s']?=some f/\ls[k']?=some b/\t[s'*ls.length+k']?=some x /\
  ((sameB (A f b) noB 104=true/\x=-1)\/∃(j:Nat) (g:Nat->Bool),x=j/\l[j]?=some g/\sameB g (A f b) 104=true)
variable {a : Act}{ops : Array Oper}{Q : Exit → Act → World → Prop}{l : List (Nat → Bool)}{lc ll ll' ln ln' : List Int}{rest : List Oper}{K P b cap g k mb n s : Nat}{F : Nat → Bool}{bh hs : Nat → Nat → Bool}{ob : Obj}{o op : Oper}{vc vl vn : Value}{W0 w w' w'' w5 : World}
theorem Exp.fnd {A:(Nat->Bool)->Nat->Nat->Bool}{ls:List Nat}{t:List Int} (h:Exp A F ls s k l t):Fnd A ls s k l t:=by
 induction h with
 |first=>exact⟨rfl,λi x h=>by simp at h,λa h=>by omega,λa n _ h=>by simp at h⟩
 |@kind s k l t f b h hf hb hr ih=>
  obtain⟨J,e2,E,K,L⟩:=h.size;have q:=(List.getElem?_eq_some_iff.1 hb).1;have hs:=(List.getElem?_eq_some_iff.1 hf).1;have M:=q6h l (A f b);have B:=q2F l (A f b);have z:knL (t++[numR l (A f b)])=(numL l (A f b)).length:=by
   rw[q8M,ih.kn];rcases B with c|⟨c,y⟩
   ·rw[if_neg (by omega),c]
   rw[if_pos y,c]
  refine⟨z,λi x m=>?_,λa C=>?_,λa n o p=>?_⟩
  ·rcases Nat.lt_or_ge i t.length with p|p
   ·rw[List.getElem?_append_left p]at m;rw[List.take_append_of_le_length (by omega)];exact ih.le i x m
   have d:i=t.length:=by
    have:=(List.getElem?_eq_some_iff.1 m).1;simp at this;omega
   subst d;rw[List.getElem?_append_right (by omega)]at m;simp at m;rw[List.take_append_of_le_length (by omega),List.take_length,ih.kn,<-m];omega
  ·by_cases w:a=s/\k=0
   ·obtain⟨rfl,rfl⟩:=w;rw[List.take_append_of_le_length (by omega),show a*ls.length=t.length by omega,List.take_length,ih.kn];exact hs
   have c:a<s\/(a=s/\0<k):=by omega
   have y:a*ls.length<=t.length:=by
    have:a*ls.length<=s*ls.length:=Nat.mul_le_mul_right _ (by omega);omega
   rw[List.take_append_of_le_length y];exact ih.row a c
  rw[List.length_append,List.length_singleton]at p;rcases Nat.lt_or_ge (a*ls.length+n) t.length with c|c
  ·obtain⟨f',b',x,G,H,I,u⟩:=ih.to a n o c;refine⟨f',b',x,q7Y G,H,by rw[List.getElem?_append_left c];exact I,?_⟩;rcases u with u|⟨j,g,c1,c2,c3⟩
   ·exact Or.inl u
   exact Or.inr ⟨j,g,c1,q7Y c2,c3⟩
  have d:a*ls.length+n=s*ls.length+k:=by omega
  have e:a=s/\n=k:=by
   have v:=q5y (s:=a) o;have D:=q5y (s:=s) q;rw[d]at v;exact⟨v.1.symm.trans D.1,v.2.symm.trans D.2⟩
  obtain⟨rfl,rfl⟩:=e;refine⟨f,b,numR l (A f b),q7Y hf,hb,by rw[show a*ls.length+n=t.length by omega];simp,?_⟩;cases hn:sameB (A f b) noB 104
  ·obtain⟨j,g,c1,c2,c3⟩:=y2I (l:=l) hn;exact Or.inr ⟨j,g,c1,c2,c3⟩
  exact Or.inl ⟨rfl,by unfold numR;rw[if_pos hn]⟩
 |@set s l t h hs ih=>
  obtain⟨J,e2,E,K,L⟩:=h.size;refine⟨ih.kn,ih.le,λa C=>?_,ih.to⟩;by_cases w:a<s
  ·exact ih.row a (Or.inl w)
  have e:a=s:=by omega
  subst e;rcases Nat.eq_zero_or_pos ls.length with r|r
  ·rw[r,Nat.mul_zero,List.take_zero];have:t=[]:=List.eq_nil_of_length_eq_zero (by rw[E,r];simp);have q:=ih.kn;rw[this]at q;rw[q];exact hs
  exact ih.row a (Or.inr ⟨rfl,r⟩)
def autOf (l:List (Nat->Bool)) (t:List Int) (K:Nat):Aut:=⟨l.length,K,λs k=>t.getD (s*K+k) (-1),λs=>vdF (λr=>(l.getD s noB) (96+r)) 8 0⟩
theorem q6H (l:List (Nat->Bool)) (t:List Int) (K i:Nat) (_hK:0<K):fl (autOf l t K) i=t.getD i (-1):=by
 unfold fl autOf;simp only;rw[Nat.mul_comm,Nat.div_add_mod]
theorem q6G (l:List (Nat->Bool)) (t:List Int) (K:Nat) (hK:0<K):∀i,i<=t.length->kn (autOf l t K) i=knL (t.take i):=by
 intro i
 induction i with
 |zero=>intro _;rfl
 |succ i ih=>
  intro b;have a:i<t.length:=by omega
  rw[kn,ih (by omega),q6H l t K i hK,List.take_succ,List.getElem?_eq_getElem a];simp only[Option.toList_some];rw[q8M,List.getD_eq_getElem?_getD,List.getElem?_eq_getElem a];rfl
theorem y0Z {A:(Nat->Bool)->Nat->Nat->Bool}{ls:List Nat}{t:List Int} (hK:0<ls.length) (h:Exp A F ls l.length 0 l t):Bfs (autOf l t ls.length):=by
 obtain⟨d,e2,f,g,j⟩:=h.size;have b:=h.fnd;have c:t.length=l.length*ls.length:=by omega
 refine⟨d,λi e=>?_,λs hs=>?_,?_⟩
 ·have a:i<t.length:=by rw[c];exact e
  rw[q6H _ _ _ _ hK,q6G _ _ _ hK i (by omega),List.getD_eq_getElem?_getD,List.getElem?_eq_getElem a];exact b.le i t[i] (List.getElem?_eq_getElem a)
 ·have k:s*ls.length<=l.length*ls.length:=Nat.mul_le_mul_right _ (Nat.le_of_lt hs);show s<kn (autOf l t ls.length) (s*ls.length);rw[q6G _ _ _ hK _ (by omega)];exact b.row s (Or.inl hs)
 show kn (autOf l t ls.length) (l.length*ls.length)=l.length;rw[q6G _ _ _ hK _ (by omega),List.take_of_length_le (by omega)];exact b.kn
theorem q5I {f:Nat->Bool}:∀u r x,r<=x->x<r+u->f x=true->vdF f u r≠-1
 |0,r,x,h1,h2,_=>by omega
 |u+1,r,x,h1,h2,h=>by
  rw[vdF];split
  ·omega
  rename_i a;have:r≠x:=λe=>a (by rw[e];exact h)
  exact q5I u (r+1) x (by omega) (by omega) h
def Reps (hs:Nat->Nat->Bool) (P:Nat) (ls:List Nat):Prop:=∀b,b<256->∃(k c:Nat),ls[k]?=some c/\∀p,p<P->hs p c=hs p b
theorem y1T {ls:List Nat} (hL:LiveNet P hs bh F) {s k:Nat}{l:List (Nat->Bool)}{t:List Int} (h:Exp (λf b=>aftTo hs bh f b P) F ls s k l t):∀g∈l,(∃q,q<104/\g q=true)/\∀q,q<96->g q=true->q<P:=by
 induction h with
 |first=>intro g a;rw[List.mem_singleton.1 a];exact⟨hL.some,hL.rngF⟩
 |@kind s k l t f b h hf hb hr ih=>
  intro g a;unfold numL at a;split at a
  ·exact ih g a
  rename_i e;split at a
  ·exact ih g a
  rcases List.mem_append.1 a with d|d
  ·exact ih g d
  rw[List.mem_singleton.1 d];refine⟨?_,λq i c=>?_⟩
  ·apply Classical.byContradiction;intro m;apply e;rw[q1x];intro q i;cases hv:aftTo hs bh f b P q
   ·rfl
   exact absurd ⟨q,i,hv⟩ m
  simp only[aftTo,List.any_eq_true,List.mem_range,Bool.and_eq_true]at c;obtain⟨p,n,⟨_,_⟩,j⟩:=c;exact hL.rng p q n i j
 |set h hs ih=>exact ih
theorem q5C {ls:List Nat} (hL:LiveNet P hs bh F) (hG:∀p,p<P->Goal P bh p) (hR:Reps hs P ls) {l:List (Nat->Bool)}{t:List Int} (h:Exp (λf b=>aftTo hs bh f b P) F ls l.length 0 l t):(autOf l t ls.length).Good:=by
 obtain⟨Y,e2,Z,e4,e5⟩:=h.size;have W:=h.fnd;have y:=y1T hL h;have L:=h.range;have u:∀s k,s<l.length->k<ls.length->s*ls.length+k<t.length:=λs k e v=>by
  have:(s+1)*ls.length<=l.length*ls.length:=Nat.mul_le_mul_right _ e;rw[Nat.add_mul]at this;omega
 have D:∀s k,s<l.length->k<ls.length->(autOf l t ls.length).to s k=t[s*ls.length+k]?.getD (-1):=λs k _ _=>by simp[autOf,List.getD_eq_getElem?_getD]
 refine⟨λs k e v=>?_,λs M J=>?_⟩
 ·have E:=u s k e v;rw[D s k e v,List.getElem?_eq_getElem E];exact L _ (List.getElem_mem E)
 -- from a place an end can be come to
 have O:∀(p:Nat),Goal P bh p->∀(s:Nat) (f:Nat->Bool),l[s]?=some f->f p=true->∃w,Kd (autOf l t ls.length) w/\ext (autOf l t ls.length) s w≠-1:=by
  have step:∀(p:Nat),p<P->∀(s:Nat) (f:Nat->Bool),l[s]?=some f->f p=true->∀(q:Nat),q<104->bh p q=true->∃(k:Nat),k<ls.length/\∃(j:Nat) (g:Nat->Bool),(autOf l t ls.length).to s k=j/\l[j]?=some g/\g q=true:=by
   intro p z s f d i q G K;obtain⟨b,T,U⟩:=hL.has p z;obtain⟨k,c,A,V⟩:=hR b T;have n:=(List.getElem?_eq_some_iff.1 A).1;have m:=(List.getElem?_eq_some_iff.1 d).1;have E:=u s k m n;obtain⟨f',b',x,Q,R,S,H⟩:=W.to s k n E;rw[d]at Q;rw[A]at R;cases Q;cases R;have o:aftTo hs bh f c P q=true:=by
    simp only[aftTo,List.any_eq_true,List.mem_range,Bool.and_eq_true];exact⟨p,z,⟨i,by rw[V p z];exact U⟩,K⟩
   rcases H with ⟨H,_⟩|⟨j,g,c1,c2,c3⟩
   ·have:=(q1x _ _ _).1 H q G;rw[o]at this;cases this
   refine⟨k,n,j,g,by rw[D s k m n,S];exact c1,c2,?_⟩;rw[(q1x _ _ _).1 c3 q G];exact o
  intro p X
  induction X with
  |@last p r z hr B=>
   intro s f d i;obtain⟨k,A,j,g,e,v,I⟩:=step p z s f d i (96+r) (by omega) B;refine⟨[k],(Kd.nil _).cons A,?_⟩;rw[ext_cons,e,ext_nil];show vdF (λr=>(l.getD j noB) (96+r)) 8 0≠-1;exact q5I 8 0 r (by omega) (by omega) (by rw[List.getD_eq_getElem?_getD,v];exact I)
  |@next p q z G B _ ih=>
   intro s f d i;obtain⟨k,A,j,g,e,v,I⟩:=step p z s f d i q (by have:=hL.le;omega) B;obtain⟨w,w1,w2⟩:=ih j g v I;exact⟨k::w,w1.cons A,by rw[ext_cons,e];exact w2⟩
 have m:=M;have C:=List.getElem?_eq_getElem m;obtain⟨⟨q,G,N⟩,B⟩:=y l[s] (List.getElem_mem m);have:∃w,Kd (autOf l t ls.length) w/\ext (autOf l t ls.length) s w≠-1:=by
  rcases Nat.lt_or_ge q 96 with e|e
  ·exact O q (hG q (B q e N)) s l[s] C N
  refine⟨[],Kd.nil _,?_⟩;rw[ext_nil];show vdF (λr=>(l.getD s noB) (96+r)) 8 0≠-1;refine q5I 8 0 (q-96) (by omega) (by omega) ?_;rw[List.getD_eq_getElem?_getD,C,show 96+(q-96)=q by omega];exact N
 obtain⟨w,w1,w2⟩:=this;exact w2 (by rw[J w w1];exact ext_none _ _ (by omega))
theorem q1i (w:World):(zeroValue 25).run Tryz.prog w=.ok (.agg #[.int .i64 0,.slice none 0 0,.slice none 0 0,.slice none 0 0]) w:=by kernel_rfl
theorem q0D:(Tryz.prog.info? 25).map (·.size)=some 4:=by kernel_rfl
def kl (f:Nat->Int):List Value:=(List.range 256).map λi=>.int .i64 (f i)
theorem y2m (f:Nat->Int):(kl f).length=256:=by simp[kl]
theorem y2P:(Tryz.prog.info? 140).map (·.size)=some 256:=by kernel_rfl
theorem y2y (f:Nat->Int) (k:Nat) (hk:k<256) (w:World):(Instr.index 140 (.agg (kl f).toArray) (.int .i64 k)).run Tryz.prog w=.ok (.int .i64 (f k)) w:=by
 have hs:(sizeOf 3).run Tryz.prog w=.ok 1 w:=by kernel_rfl
 have a:(kl f).toArray[k]?=some (.int .i64 (f k)):=by simp[kl,hk]
 have b:(part 3 (kl f).toArray (k*1)).run Tryz.prog w=.ok (.int .i64 (f k)) w:=run_part_plain w (by kernel_rfl) (by rw[Nat.mul_one];exact a);simp only[Instr.index,asIntOf,Sem.run_bind,Sem.run_pure,Result.andThen_ok,run_underlying Tryz.underlying140,Sem.run_ite,hs];rw[if_pos (by omega),Int.toNat_natCast];exact b
theorem q9d (hgd:op.guard=none) (x i:Operand) (ho:op.op=.index 140 x i) (f:Nat->Int) (hx:a.eval x=.agg (kl f).toArray) (k:Nat) (hi:a.eval i=.int .i64 k) (hk:k<256)
  (h:wpList Tryz.prog ops Q rest (a.put op.dst (.int .i64 (f k))) w):wpList Tryz.prog ops Q (op::rest) a w:=
 wpList_plain hgd λ_ b=>by
  unfold Oper.wp execOp;have c:=y2y f k hk w;simp only[ho,hx,hi,Sem.run_bind,c,Result.andThen_ok,Sem.run_pure];exact b _ _ h
theorem q1a (x:Operand) (ho:o.op=.buildSlice 23 1 #[(0,x)]) (v:Int) (hx:a.eval x=.int .i64 v):
  (execOp a.eval o).run Tryz.prog w=.ok (.value (.slice (some ⟨w.heap.size,0,none⟩) 1 1)) (w.alloc (.cells #[.int .i64 v] 3)):=by
 unfold execOp;have b:(Instr.buildSlice 23 1 #[(0,.int .i64 v)]).run Tryz.prog w=.ok (.slice (some ⟨w.heap.size,0,none⟩) 1 1) (w.alloc (.cells #[.int .i64 v] 3)):=by kernel_rfl
 have e:(#[((0:Nat),x)].map λ(p:Nat × Operand)=>(p.1,a.eval p.2))=#[(0,.int .i64 v)]:=by simp[hx]
 simp only[ho,Sem.run_bind,e,b,Result.andThen_ok,Sem.run_pure]
structure MS (mb:Nat) (W0:World) (vc vl vn:Value) (lc ll ln:List Int) (w':World):Prop where
 c:TC mb [.int .i64 0,vc,vl,vn] w'
 oc:OwnL W0.heap.size vc lc w'
 ol:OwnL W0.heap.size vl ll w'
 on:OwnL W0.heap.size vn ln w'
 n1:∀k,vc.ownBlock=some k->vl.ownBlock≠some k
 n2:∀k,vc.ownBlock=some k->vn.ownBlock≠some k
 n3:∀k,vl.ownBlock=some k->vn.ownBlock≠some k
 b:Below mb W0 w'
 k:∀k,k<W0.heap.size->k≠mb->w'.heap[k]?=W0.heap[k]?
theorem MS.below (h:MS mb W0 vc vl vn lc ll ln w') (hW:Below w'.heap.size w' w'') (hm:mb<W0.heap.size):MS mb W0 vc vl vn lc ll ln w'':=
 ⟨h.c.below hW,h.oc.below hW,h.ol.below hW,h.on.below hW,h.n1,h.n2,h.n3,h.b.trans (hW.mono (by have:=h.b.size;omega)),λk a d=>by rw[hW.block k (by have:=h.b.size;omega)];exact h.k k a d⟩
theorem MS.put1 {lc':List Int} (h:MS mb W0 vc vl vn lc ll ln w') (hm:mb<W0.heap.size) (h5:OwnL W0.heap.size (.slice (some ⟨g,0,none⟩) n cap) lc' w5) (hg:(w'.alloc ob).grownBy w5 vc.ownBlock) (hgb:vc.ownBlock=some g\/g=(w'.alloc ob).heap.size):
  w5.cell? ⟨mb,1,none⟩=some vc/\w5.frozen? ⟨mb,1,none⟩=false/\MS mb W0 (.slice (some ⟨g,0,none⟩) n cap) vl vn lc' ll ln (w5.setCell ⟨mb,1,none⟩ (.slice (some ⟨g,0,none⟩) n cap)):=by
 have x:=box_bel w' ob;have t:(w'.alloc ob).heap.size=w'.heap.size+1:=by simp
 have a:=h.below x hm;have l:=h.oc.blk;have m:=h.ol.blk;have o:=h.on.blk;have hs:=h.b.size;have f:=a.c.block (hg.block _ a.c.lt (λe=>by have:=(l _ e.symm).1;omega));obtain⟨c1,c2⟩:=f 1 _ rfl;have i:∀q,q≠mb->(w5.setCell ⟨mb,1,none⟩ (.slice (some ⟨g,0,none⟩) n cap)).heap[q]?=w5.heap[q]?:=λq d=>Below.heap_setCell w5 ⟨mb,1,none⟩ _ q (λe=>d e)
 have s:=(h5.blk g rfl).1;refine⟨c1,c2,f.set 1 (by simp) _,h5.keep (λq d=>i q (by cases d;show g≠mb;omega)),(a.ol.grown hg (λq d e=>h.n1 q e d)).keep (λq d=>i q (λe=>by have:=(m q d).1;omega)),(a.on.grown hg (λq d e=>h.n2 q e d)).keep (λq d=>i q (λe=>by have:=(o q d).1;omega)),λq d e=>?_,λq d e=>?_,h.n3,?_,λq j r=>?_⟩
 ·have e2:=Option.some.inj d;subst e2;rcases hgb with j|j
  ·exact h.n1 g j e
  have:=(m g e).2;omega
 ·have e2:=Option.some.inj d;subst e2;rcases hgb with j|j
  ·exact h.n2 g j e
  have:=(o g e).2;omega
 ·exact(a.b.grown hg (by have:=a.b.size;omega) (λq d=>by have:=(l q d).1;omega)).setCell (p:=⟨mb,1,none⟩) (Nat.le_refl _) _
 rw[i q r,hg.block q (by omega) (λe=>by have:=(l q e.symm).1;omega)];exact a.k q j r
theorem MS.put2 (h:MS mb W0 vc vl vn lc ll ln w') (hm:mb<W0.heap.size) (h5:OwnL W0.heap.size (.slice (some ⟨g,0,none⟩) n cap) ll' w5) (hg:(w'.alloc ob).grownBy w5 vl.ownBlock) (hgb:vl.ownBlock=some g\/g=(w'.alloc ob).heap.size):
  w5.cell? ⟨mb,2,none⟩=some vl/\w5.frozen? ⟨mb,2,none⟩=false/\MS mb W0 vc (.slice (some ⟨g,0,none⟩) n cap) vn lc ll' ln (w5.setCell ⟨mb,2,none⟩ (.slice (some ⟨g,0,none⟩) n cap)):=by
 have x:=box_bel w' ob;have t:(w'.alloc ob).heap.size=w'.heap.size+1:=by simp
 have a:=h.below x hm;have l:=h.ol.blk;have m:=h.oc.blk;have o:=h.on.blk;have hs:=h.b.size;have f:=a.c.block (hg.block _ a.c.lt (λe=>by have:=(l _ e.symm).1;omega));obtain⟨c1,c2⟩:=f 2 _ rfl;have i:∀q,q≠mb->(w5.setCell ⟨mb,2,none⟩ (.slice (some ⟨g,0,none⟩) n cap)).heap[q]?=w5.heap[q]?:=λq d=>Below.heap_setCell w5 ⟨mb,2,none⟩ _ q (λe=>d e)
 have s:=(h5.blk g rfl).1;refine⟨c1,c2,f.set 2 (by simp) _,(a.oc.grown hg (λq d e=>h.n1 q d e)).keep (λq d=>i q (λe=>by have:=(m q d).1;omega)),h5.keep (λq d=>i q (by cases d;show g≠mb;omega)),(a.on.grown hg (λq d e=>h.n3 q e d)).keep (λq d=>i q (λe=>by have:=(o q d).1;omega)),λq d e=>?_,h.n2,λq d e=>?_,?_,λq j r=>?_⟩
 ·have e2:=Option.some.inj e;subst e2;rcases hgb with j|j
  ·exact h.n1 g d j
  have:=(m g d).2;omega
 ·have e2:=Option.some.inj d;subst e2;rcases hgb with j|j
  ·exact h.n3 g j e
  have:=(o g e).2;omega
 ·exact(a.b.grown hg (by have:=a.b.size;omega) (λq d=>by have:=(l q d).1;omega)).setCell (p:=⟨mb,2,none⟩) (Nat.le_refl _) _
 rw[i q r,hg.block q (by omega) (λe=>by have:=(l q e.symm).1;omega)];exact a.k q j r
theorem MS.put3 (h:MS mb W0 vc vl vn lc ll ln w') (hm:mb<W0.heap.size) (h5:OwnL W0.heap.size (.slice (some ⟨g,0,none⟩) n cap) ln' w5) (hg:(w'.alloc ob).grownBy w5 vn.ownBlock) (hgb:vn.ownBlock=some g\/g=(w'.alloc ob).heap.size):
  w5.cell? ⟨mb,3,none⟩=some vn/\w5.frozen? ⟨mb,3,none⟩=false/\MS mb W0 vc vl (.slice (some ⟨g,0,none⟩) n cap) lc ll ln' (w5.setCell ⟨mb,3,none⟩ (.slice (some ⟨g,0,none⟩) n cap)):=by
 have x:=box_bel w' ob;have t:(w'.alloc ob).heap.size=w'.heap.size+1:=by simp
 have a:=h.below x hm;have l:=h.on.blk;have m:=h.oc.blk;have o:=h.ol.blk;have hs:=h.b.size;have f:=a.c.block (hg.block _ a.c.lt (λe=>by have:=(l _ e.symm).1;omega));obtain⟨c1,c2⟩:=f 3 _ rfl;have i:∀q,q≠mb->(w5.setCell ⟨mb,3,none⟩ (.slice (some ⟨g,0,none⟩) n cap)).heap[q]?=w5.heap[q]?:=λq d=>Below.heap_setCell w5 ⟨mb,3,none⟩ _ q (λe=>d e)
 have s:=(h5.blk g rfl).1;refine⟨c1,c2,f.set 3 (by simp) _,(a.oc.grown hg (λq d e=>h.n2 q d e)).keep (λq d=>i q (λe=>by have:=(m q d).1;omega)),(a.ol.grown hg (λq d e=>h.n3 q d e)).keep (λq d=>i q (λe=>by have:=(o q d).1;omega)),h5.keep (λq d=>i q (by cases d;show g≠mb;omega)),h.n1,λq d e=>?_,λq d e=>?_,?_,λq j r=>?_⟩
 ·have e2:=Option.some.inj e;subst e2;rcases hgb with j|j
  ·exact h.n2 g d j
  have:=(m g d).2;omega
 ·have e2:=Option.some.inj e;subst e2;rcases hgb with j|j
  ·exact h.n3 g d j
  have:=(o g d).2;omega
 ·exact(a.b.grown hg (by have:=a.b.size;omega) (λq d=>by have:=(l q d).1;omega)).setCell (p:=⟨mb,3,none⟩) (Nat.le_refl _) _
 rw[i q r,hg.block q (by omega) (λe=>by have:=(l q e.symm).1;omega)];exact a.k q j r
end Go.Proofs.YtoaaklhpmhjhkaaGreat
namespace Go.Proofs.YtoaaklhpmhjhkaaGreat
open Bm
variable {l : List (Nat → Bool)}{K b k s : Nat}{F : Nat → Bool}
theorem q6A {a c d:Nat} (hb:b<K) (hd:d<K) (h:a*K+b=c*K+d):a=c/\b=d:=by
 have e:(a*K+b)/K=a:=by rw[Nat.mul_comm,Nat.mul_add_div (by omega),Nat.div_eq_of_lt hb,Nat.add_zero]
 have f:(c*K+d)/K=c:=by rw[Nat.mul_comm,Nat.mul_add_div (by omega),Nat.div_eq_of_lt hd,Nat.add_zero]
 have:a=c:=by rw[<-e,<-f,h]
 subst this;exact⟨rfl,by omega⟩
theorem Exp.det {A:(Nat->Bool)->Nat->Nat->Bool}{ls:List Nat}{t:List Int} (h:Exp A F ls s k l t):
  ∀ {s' k':Nat}{l':List (Nat->Bool)}{t':List Int},Exp A F ls s' k' l' t'->t.length=t'.length->l=l'/\t=t':=by
 induction h with
 |first=>
  intro s' k' l' t' c a
  induction c with
  |first=>exact⟨rfl,rfl⟩
  |kind h hf hb hr ih=>simp at a
  |set h hs ih=>exact ih a
 |kind h hf hb hr ih=>
  rename_i s k l t f b;intro s' k' l' t' c a
  induction c with
  |first=>simp at a
  |kind h2 hf2 hb2 hr2 ih2=>
   rename_i o m n p j i;simp only[List.length_append,List.length_singleton,Nat.add_right_cancel_iff]at a;obtain⟨rfl,rfl⟩:=ih h2 a;have e:=h.size.2.2.1;have e2:=h2.size.2.2.1;have g:=(List.getElem?_eq_some_iff.1 hb).1;have d:=(List.getElem?_eq_some_iff.1 hb2).1;obtain⟨rfl,rfl⟩:=q6A g d (e.symm.trans e2);rw[hf]at hf2;rw[hb]at hb2;cases hf2;cases hb2;exact⟨rfl,rfl⟩
  |set h2 hs ih2=>exact ih2 a
 |set h hs ih=>exact λc a=>ih c a
theorem Exp.upto {A:(Nat->Bool)->Nat->Nat->Bool}{ls:List Nat}{t:List Int} (h:Exp A F ls s k l t) (n:Nat) (hn:n<t.length):
  ∃s' k' l' t' f b,Exp A F ls s' k' l' t'/\t'.length=n/\l'[s']?=some f/\ls[k']?=some b/\numR l' (A f b)<200:=by
 induction h with
 |first=>simp at hn
 |kind h hf hb hr ih=>
  rename_i s k l t f b;simp only[List.length_append,List.length_singleton]at hn;by_cases e:n=t.length
  ·exact⟨s,k,l,t,f,b,h,e.symm,hf,hb,hr⟩
  exact ih (by omega)
 |set h hs ih=>exact ih hn
theorem Exp.no_more {A:(Nat->Bool)->Nat->Nat->Bool}{ls:List Nat}{t:List Int} (hK:0<ls.length) (h:Exp A F ls l.length 0 l t)
  {s k:Nat}{l2:List (Nat->Bool)}{t2:List Int}{f:Nat->Bool}{b:Nat} (h2:Exp A F ls s k l2 t2) (hl:t2.length=t.length) (hf:l2[s]?=some f) (hb:ls[k]?=some b):False:=by
 obtain⟨rfl,rfl⟩:=h2.det h hl;have a:=h.size.2.2.1;have e2:=h2.size.2.2.1;have c:=(List.getElem?_eq_some_iff.1 hb).1;obtain⟨e,_⟩:=q6A c hK (e2.symm.trans a);have:=(List.getElem?_eq_some_iff.1 hf).1;omega
theorem Exp.not_both {A:(Nat->Bool)->Nat->Nat->Bool}{ls:List Nat}{t:List Int} (hK:0<ls.length) (h:Exp A F ls l.length 0 l t)
  {s k:Nat}{l2:List (Nat->Bool)}{t2:List Int}{f:Nat->Bool}{b:Nat} (h2:Exp A F ls s k l2 t2) (hf:l2[s]?=some f) (hb:ls[k]?=some b) (hr:200<=numR l2 (A f b)):False:=by
 rcases Nat.lt_trichotomy t2.length t.length with i|j|g
 ·obtain⟨r,n,q,u,f',b',d,e,c,a,m⟩:=h.upto _ i;obtain⟨rfl,rfl⟩:=d.det h2 e;have o:=(List.getElem?_eq_some_iff.1 hb).1;have p:=(List.getElem?_eq_some_iff.1 a).1;obtain⟨rfl,rfl⟩:=q6A p o (d.size.2.2.1.symm.trans h2.size.2.2.1);rw[hf]at c;rw[hb]at a;cases c;cases a;omega
 ·exact Exp.no_more hK h h2 j hf hb
 obtain⟨r,n,q,u,f',b',d,e,c,a,_⟩:=h2.upto _ g;exact Exp.no_more hK h d e c a
theorem Exp.one_end {A:(Nat->Bool)->Nat->Nat->Bool}{ls:List Nat}{l2:List (Nat->Bool)}{t t2:List Int} (hK:0<ls.length) (h:Exp A F ls l.length 0 l t) (h2:Exp A F ls l2.length 0 l2 t2):l=l2/\t=t2:=by
 rcases Nat.lt_trichotomy t2.length t.length with f|g|e
 ·obtain⟨k,i,j,m,f',b',d,c,b,a,_⟩:=h.upto _ f;exact(Exp.no_more hK h2 d c b a).elim
 ·exact h.det h2 g.symm
 obtain⟨k,i,j,m,f',b',d,c,b,a,_⟩:=h2.upto _ e;exact(Exp.no_more hK h d c b a).elim
end Go.Proofs.YtoaaklhpmhjhkaaGreat
