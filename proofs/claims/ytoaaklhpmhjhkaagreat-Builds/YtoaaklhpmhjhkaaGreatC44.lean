import Derived.Test.YtoaaklhpmhjhkaaGreatC43
set_option maxRecDepth 100000
set_option maxHeartbeats 4000000
set_option linter.all false
namespace Go.Proofs.YtoaaklhpmhjhkaaGreat
open Bm
structure Pull (E F G:Nat->Nat->Bool) (K:Nat):Prop where
 e:Eqv E 256
 k:K=cnt E 256
 f:Eqv F K
 g:Eqv G 256
 x:∀a b,a<256->b<256->G a b=F (idx E a) (idx E b)
theorem q5b {α β:Type}{l:List α}{f g:α->List β} (h:∀a∈l,f a=g a):l.flatMap f=l.flatMap g:=by
 induction l with
 |nil=>rfl
 |cons a l ih=>rw[List.flatMap_cons,List.flatMap_cons,h a (by simp),ih (λb c=>h b (by simp[c]))]
variable {K n : Nat}{E G : Nat → Nat → Bool}{nx : Nat → Nat → Int}
theorem Pull.kk {F:Nat->Nat->Bool} (h:Pull E F G K) {b:Nat} (hb:b<256):idx E b<K:=by
 rw[h.k];exact idx_lt h.e hb
theorem Pull.rep {F:Nat->Nat->Bool} (h:Pull E F G K) {k:Nat} (hk:k<K):∃r,(reps E 256)[k]?=some r/\r<256/\least E r=r/\cnt E r=k/\idx E r=k:=by
 rw[h.k]at hk;refine⟨_,List.getElem?_eq_getElem hk,?_⟩;obtain⟨c,a,b⟩:=reps_mem (List.getElem?_eq_getElem hk);exact⟨c,a,b,by rw[idx_rep a];exact b⟩
theorem Pull.lst {F:Nat->Nat->Bool} (h:Pull E F G K) {b:Nat} (hb:b<256):(reps E 256)[least F (idx E b)]?=some (least G b)/\least E (least G b)=least G b/\cnt E (least G b)=least F (idx E b):=by
 have n:=h.kk hb;have q:=least_le F (idx E b);obtain⟨r,i,j,l,d,m⟩:=h.rep (k:=least F (idx E b)) (by omega);have o:least G b=r:=by
  refine least_eq ?_ (λc p=>?_) (least_like h.g hb)
  ·rw[h.x r b j hb,m];exact least_like h.f n
  rw[h.x c b (by omega) hb];refine least_min ?_;rw[<-d];have a:c<256:=by omega
  exact cnt_lt (least_idem h.e a) (by have:=least_le E c;omega)
 rw[o];exact⟨i,l,d⟩
theorem Pull.reps_to {F:Nat->Nat->Bool} (h:Pull E F G K):∀n,n<=256->reps G n=(reps F (cnt E n)).map λk=>(reps E 256).getD k 0
 |0,_=>rfl
 |n+1,hn=>by
  have ih:=h.reps_to n (by omega);obtain⟨j,g,c⟩:=h.lst (b:=n) (by omega);rw[reps_succ,ih];by_cases a:least E n=n
  ·have d:=idx_rep a;rw[cnt_succ,if_pos a,reps_succ F,List.map_append];congr 1;have i:(reps E 256).getD (cnt E n) 0=n:=by rw[List.getD_eq_getElem?_getD,reps_get E 256 n (by omega) a];rfl
   by_cases f:least G n=n
   ·rw[f]at c;rw[if_pos f,if_pos (by rw[d]at c;exact c.symm)];show [n]=[(reps E 256).getD (cnt E n) 0];rw[i]
   rw[if_neg f,if_neg (λe=>f ?_)]
   ·rfl
   rw[d,e]at c;exact cnt_inj g a c
  rw[cnt_succ,if_neg a,Nat.add_zero,if_neg (λe=>a (by rw[e]at g;exact g)),List.append_nil]
theorem Pull.ix {F:Nat->Nat->Bool} (h:Pull E F G K) {b:Nat} (hb:b<256):idx G b=idx F (idx E b):=by
 obtain⟨f,g,a⟩:=h.lst hb;have e:=least_le G b;unfold idx;unfold idx at a;rw[<-a];have d:=h.reps_to (least G b) (by omega);have c:=congrArg List.length d;rw[List.length_map]at c;exact c
theorem y3y {x:Nat} (hx:x<n) (hl:least E x=x):numF (reps E n) x=(cnt E x:Int):=by
 have a:=reps_get E n x hx hl;have e:=List.mem_of_getElem? a;unfold numF;rw[if_pos e];obtain⟨c,d⟩:=List.getElem?_eq_some_iff.1 a;have b:=(q9n E n).idxOf_getElem (cnt E x) c;rw[d]at b;rw[b]
variable {A : Aut}
theorem y0e (h:Pn A E nx) {s b:Nat} (hs:s<cnt (alB A) A.N) (hb:b<256):rwB A nx (reps (alB A) A.N) s b=rwOf A (alB A) s (idx E b):=by
 obtain⟨r,j⟩:∃r,(reps (alB A) A.N)[s]?=some r:=⟨_,List.getElem?_eq_getElem hs⟩;have i:(reps (alB A) A.N).getD s 0=r:=by rw[List.getD_eq_getElem?_getD,j];rfl
 obtain⟨c,_,_⟩:=reps_mem j;unfold rwB rwOf gAt;rw[i];obtain⟨n,a⟩:=h.to (Nat.le_of_lt c) hb;rw[if_neg (by omega)]at a;have l:=h.g.rng r _ c (h.kk hb);by_cases e:A.to r (idx E b)=-1
 ·rw[if_pos e];have d:toR A.N nx r b=A.N:=by
   rw[e]at a;unfold st at a;by_cases e2:toR A.N nx r b=A.N
   ·exact e2
   rw[if_neg e2]at a;omega
  rw[d,q6x];unfold numF;rw[if_neg];intro m;rw[q3m]at m;omega
 rw[if_neg e];have d:toR A.N nx r b≠A.N:=λe2=>by
  unfold st at a;rw[if_pos e2]at a;exact e a.symm
 have f:toR A.N nx r b<A.N:=by omega
 unfold st at a;rw[if_neg d]at a;rw[<-a,Int.toNat_natCast];unfold frsF;rw[if_neg d];have k:=least_le (alB A) (toR A.N nx r b);rw[y3y (by omega) (least_idem (alB_eqv A A.N) f)];rfl
theorem q9z (h:Pn A E nx) (kf:Nat->Int) (hkf:∀b,b<256->kf b=idxI E b):
  (∀b,b<256->(clsL (Cl (rwOf A (alB A)) (cnt (alB A) A.N)) kf 256).getD b 0=idxI (Cl (rwB A nx (reps (alB A) A.N)) (cnt (alB A) A.N)) b) /\
  cnt (Cl (rwB A nx (reps (alB A) A.N)) (cnt (alB A) A.N)) 256=cnt (Cl (rwOf A (alB A)) (cnt (alB A) A.N)) A.K /\
  nxtL (rwB A nx (reps (alB A) A.N)) (reps (Cl (rwB A nx (reps (alB A) A.N)) (cnt (alB A) A.N)) 256) (cnt (alB A) A.N)=nxtL (rwOf A (alB A)) (reps (Cl (rwOf A (alB A)) (cnt (alB A) A.N)) A.K) (cnt (alB A) A.N):=by
 obtain⟨S,p⟩:=nam (cnt (alB A) A.N);obtain⟨O,o⟩:∃O,O=reps (alB A) A.N:=⟨_,rfl⟩;have c:∀s b,s<S->b<256->rwB A nx O s b=rwOf A (alB A) s (idx E b):=λs b hs f=>by rw[o];rw[p]at hs;exact y0e h hs f
 rw[<-p,<-o];have n:A.K=cnt E 256:=h.k;have P:Pull E (Cl (rwOf A (alB A)) S) (Cl (rwB A nx O) S) A.K:=by
  refine⟨h.e,n,q9b _ _ _,q9b _ _ _,λa b ha f=>?_⟩;rw[Bool.eq_iff_iff,q2C,q2C];constructor
  ·intro g s hs;rw[<-c s a hs ha,<-c s b hs f];exact g s hs
  intro g s hs;rw[c s a hs ha,c s b hs f];exact g s hs
 have d:=P.reps_to 256 (Nat.le_refl _);rw[<-n]at d;refine⟨λb f=>?_,?_,?_⟩
 ·rw[List.getD_eq_getElem?_getD,clsL,List.getElem?_map,List.getElem?_range f];simp only[Option.map_some,Option.getD_some];rw[hkf b f];unfold idxI;rw[Int.toNat_natCast,P.ix f]
 ·unfold cnt;rw[d,List.length_map]
 rw[d];unfold nxtL;refine q5b (λs hs=>?_);have l:=List.mem_range.1 hs;unfold nxtR;rw[List.length_map];refine List.map_congr_left (λj t=>?_);have i:=List.mem_range.1 t;obtain⟨κ,m⟩:∃κ,(reps (Cl (rwOf A (alB A)) S) A.K)[j]?=some κ:=⟨_,List.getElem?_eq_getElem i⟩;obtain⟨u,_,_⟩:=reps_mem m;obtain⟨r,v,w,_,_,x⟩:=P.rep u;have q:(reps (Cl (rwOf A (alB A)) S) A.K).getD j 0=κ:=by rw[List.getD_eq_getElem?_getD,m];rfl
 have e2:((reps (Cl (rwOf A (alB A)) S) A.K).map λk=>(reps E 256).getD k 0).getD j 0=r:=by
  rw[List.getD_eq_getElem?_getD,List.getElem?_map,m];simp only[Option.map_some,Option.getD_some];rw[List.getD_eq_getElem?_getD,v];rfl
 rw[q,e2,c s r l w,x]
end Go.Proofs.YtoaaklhpmhjhkaaGreat
