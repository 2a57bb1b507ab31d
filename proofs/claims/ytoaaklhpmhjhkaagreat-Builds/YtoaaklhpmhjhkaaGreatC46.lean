import Derived.Test.YtoaaklhpmhjhkaaGreatC45
set_option maxRecDepth 100000
set_option maxHeartbeats 4000000
set_option linter.all false
namespace Go.Proofs.YtoaaklhpmhjhkaaGreat
open Bm
structure Pull (E F G:Nat->Nat->Bool) (K:Nat):Prop where
 e:Eqv E 256
 k:K=cnt E 256
 f:Eqv F K
 g:Eqv G 256
 x:∀a b,a<256->b<256->G a b=F (idx E a) (idx E b)
theorem q5b {α β:Type}{l:List α}{f g:α->List β} (h:∀a∈l,f a=g a):l.flatMap f=l.flatMap g:=by
 induction l with
 |nil=>rfl
 |cons a l ih=>rw[List.flatMap_cons,List.flatMap_cons,h a (by simp),ih (fun b hb=>h b (by simp[hb]))]
variable {K n : Nat}{E G : Nat → Nat → Bool}{nx : Nat → Nat → Int}
theorem Pull.kk {F:Nat->Nat->Bool} (h:Pull E F G K) {b:Nat} (hb:b<256):idx E b<K:=by
 rw[h.k];exact idx_lt h.e hb
theorem Pull.rep {F:Nat->Nat->Bool} (h:Pull E F G K) {k:Nat} (hk:k<K):∃r,(reps E 256)[k]?=some r/\r<256/\least E r=r/\cnt E r=k/\idx E r=k:=by
 rw[h.k]at hk;refine⟨_,List.getElem?_eq_getElem hk,?_⟩;obtain⟨h1,h2,h3⟩:=reps_mem (List.getElem?_eq_getElem hk);exact⟨h1,h2,h3,by rw[idx_rep h2];exact h3⟩
theorem Pull.lst {F:Nat->Nat->Bool} (h:Pull E F G K) {b:Nat} (hb:b<256):(reps E 256)[least F (idx E b)]?=some (least G b)/\least E (least G b)=least G b/\cnt E (least G b)=least F (idx E b):=by
 have hk:=h.kk hb;have hl:=least_le F (idx E b);obtain⟨r,h1,h2,h3,h4,h5⟩:=h.rep (k:=least F (idx E b)) (by omega);have hr:least G b=r:=by
  refine least_eq ?_ (fun c hc=>?_) (least_like h.g hb)
  ·rw[h.x r b h2 hb,h5];exact least_like h.f hk
  ·rw[h.x c b (by omega) hb];refine least_min ?_;rw[<-h4];have hc2:c<256:=by omega
   exact cnt_lt (least_idem h.e hc2) (by have:=least_le E c;omega)
 rw[hr];exact⟨h1,h3,h4⟩
theorem Pull.reps_to {F:Nat->Nat->Bool} (h:Pull E F G K):∀n,n<=256->reps G n=(reps F (cnt E n)).map fun k=>(reps E 256).getD k 0
 |0,_=>rfl
 |n+1,hn=>by
  have ih:=h.reps_to n (by omega);obtain⟨h1,h2,h3⟩:=h.lst (b:=n) (by omega);rw[reps_succ,ih];by_cases he:least E n=n
  ·have hid:=idx_rep he;rw[cnt_succ,if_pos he,reps_succ F,List.map_append];congr 1;have hg:(reps E 256).getD (cnt E n) 0=n:=by rw[List.getD_eq_getElem?_getD,reps_get E 256 n (by omega) he];rfl
   by_cases hG:least G n=n
   ·rw[hG]at h3;rw[if_pos hG,if_pos (by rw[hid]at h3;exact h3.symm)];show [n]=[(reps E 256).getD (cnt E n) 0];rw[hg]
   ·rw[if_neg hG,if_neg (fun e=>hG ?_)]
    ·rfl
    ·rw[hid,e]at h3;exact cnt_inj h2 he h3
  ·rw[cnt_succ,if_neg he,Nat.add_zero,if_neg (fun e=>he (by rw[e]at h2;exact h2)),List.append_nil]
theorem Pull.ix {F:Nat->Nat->Bool} (h:Pull E F G K) {b:Nat} (hb:b<256):idx G b=idx F (idx E b):=by
 obtain⟨h1,h2,h3⟩:=h.lst hb;have hle:=least_le G b;unfold idx;unfold idx at h3;rw[<-h3];have h4:=h.reps_to (least G b) (by omega);have h5:=congrArg List.length h4;rw[List.length_map]at h5;exact h5
theorem y3y {x:Nat} (hx:x<n) (hl:least E x=x):numF (reps E n) x=(cnt E x:Int):=by
 have h1:=reps_get E n x hx hl;have hm:=List.mem_of_getElem? h1;unfold numF;rw[if_pos hm];obtain⟨h2,h3⟩:=List.getElem?_eq_some_iff.1 h1;have h4:=(q9n E n).idxOf_getElem (cnt E x) h2;rw[h3]at h4;rw[h4]
variable {A : Aut}
theorem y0e (h:Pn A E nx) {s b:Nat} (hs:s<cnt (alB A) A.N) (hb:b<256):rwB A nx (reps (alB A) A.N) s b=rwOf A (alB A) s (idx E b):=by
 obtain⟨r,hr⟩:∃r,(reps (alB A) A.N)[s]?=some r:=⟨_,List.getElem?_eq_getElem hs⟩;have hrd:(reps (alB A) A.N).getD s 0=r:=by rw[List.getD_eq_getElem?_getD,hr];rfl
 obtain⟨hrN,_,_⟩:=reps_mem hr;unfold rwB rwOf gAt;rw[hrd];obtain⟨h1,h2⟩:=h.to (Nat.le_of_lt hrN) hb;rw[if_neg (by omega)]at h2;have hrg:=h.g.rng r _ hrN (h.kk hb);by_cases e:A.to r (idx E b)=-1
 ·rw[if_pos e];have hm:toR A.N nx r b=A.N:=by
   rw[e]at h2;unfold st at h2;by_cases e2:toR A.N nx r b=A.N
   ·exact e2
   ·rw[if_neg e2]at h2;omega
  rw[hm,q6x];unfold numF;rw[if_neg];intro hx;rw[q3m]at hx;omega
 ·rw[if_neg e];have hm:toR A.N nx r b≠A.N:=fun e2=>by
   unfold st at h2;rw[if_pos e2]at h2;exact e h2.symm
  have hmN:toR A.N nx r b<A.N:=by omega
  unfold st at h2;rw[if_neg hm]at h2;rw[<-h2,Int.toNat_natCast];unfold frsF;rw[if_neg hm];have hll:=least_le (alB A) (toR A.N nx r b);rw[y3y (by omega) (least_idem (alB_eqv A A.N) hmN)];rfl
theorem q9z (h:Pn A E nx) (kf:Nat->Int) (hkf:∀b,b<256->kf b=idxI E b):
  (∀b,b<256->(clsL (Cl (rwOf A (alB A)) (cnt (alB A) A.N)) kf 256).getD b 0=idxI (Cl (rwB A nx (reps (alB A) A.N)) (cnt (alB A) A.N)) b) /\
  cnt (Cl (rwB A nx (reps (alB A) A.N)) (cnt (alB A) A.N)) 256=cnt (Cl (rwOf A (alB A)) (cnt (alB A) A.N)) A.K /\
  nxtL (rwB A nx (reps (alB A) A.N)) (reps (Cl (rwB A nx (reps (alB A) A.N)) (cnt (alB A) A.N)) 256) (cnt (alB A) A.N)=nxtL (rwOf A (alB A)) (reps (Cl (rwOf A (alB A)) (cnt (alB A) A.N)) A.K) (cnt (alB A) A.N):=by
 obtain⟨S,hS⟩:=nam (cnt (alB A) A.N);obtain⟨O,hO⟩:∃O,O=reps (alB A) A.N:=⟨_,rfl⟩;have hrow:∀s b,s<S->b<256->rwB A nx O s b=rwOf A (alB A) s (idx E b):=fun s b hs hb=>by rw[hO];rw[hS]at hs;exact y0e h hs hb
 rw[<-hS,<-hO];have hK:A.K=cnt E 256:=h.k;have P:Pull E (Cl (rwOf A (alB A)) S) (Cl (rwB A nx O) S) A.K:=by
  refine⟨h.e,hK,q9b _ _ _,q9b _ _ _,fun a b ha hb=>?_⟩;rw[Bool.eq_iff_iff,q2C,q2C];constructor
  ·intro hh s hs;rw[<-hrow s a hs ha,<-hrow s b hs hb];exact hh s hs
  ·intro hh s hs;rw[hrow s a hs ha,hrow s b hs hb];exact hh s hs
 have hreps:=P.reps_to 256 (Nat.le_refl _);rw[<-hK]at hreps;refine⟨fun b hb=>?_,?_,?_⟩
 ·rw[List.getD_eq_getElem?_getD,clsL,List.getElem?_map,List.getElem?_range hb];simp only[Option.map_some,Option.getD_some];rw[hkf b hb];unfold idxI;rw[Int.toNat_natCast,P.ix hb]
 ·unfold cnt;rw[hreps,List.length_map]
 ·rw[hreps];unfold nxtL;refine q5b (fun s hs=>?_);have hs':=List.mem_range.1 hs;unfold nxtR;rw[List.length_map];refine List.map_congr_left (fun j hj=>?_);have hj':=List.mem_range.1 hj;obtain⟨κ,hκ⟩:∃κ,(reps (Cl (rwOf A (alB A)) S) A.K)[j]?=some κ:=⟨_,List.getElem?_eq_getElem hj'⟩;obtain⟨k1,_,_⟩:=reps_mem hκ;obtain⟨r,r1,r2,_,_,r5⟩:=P.rep k1;have e1:(reps (Cl (rwOf A (alB A)) S) A.K).getD j 0=κ:=by rw[List.getD_eq_getElem?_getD,hκ];rfl
  have e2:((reps (Cl (rwOf A (alB A)) S) A.K).map fun k=>(reps E 256).getD k 0).getD j 0=r:=by
   rw[List.getD_eq_getElem?_getD,List.getElem?_map,hκ];simp only[Option.map_some,Option.getD_some];rw[List.getD_eq_getElem?_getD,r1];rfl
  rw[e1,e2,hrow s r hs' r2,r5]
end Go.Proofs.YtoaaklhpmhjhkaaGreat
