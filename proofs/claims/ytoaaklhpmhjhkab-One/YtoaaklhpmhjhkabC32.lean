import Derived.Test.YtoaaklhpmhjhkabC19
set_option maxRecDepth 100000
set_option maxHeartbeats 4000000
set_option linter.all false
namespace Go.Proofs.Ytoaaklhpmhjhkab
open Go.RowKit
open Bm
variable {N b base k m n s tb : Nat}{rk : Nat → Nat}{E t : Nat → Nat → Bool}{w w' : World}
theorem NO {a:Nat} (ha:least E a=a) (hb:least E b=b) (h:cnt E a<cnt E b):a<b:=by
 rcases Nat.lt_or_ge a b with h1|h1
 ·exact h1
 ·rcases Nat.lt_or_ge b a with h2|h2
  ·have:=cnt_lt hb h2;omega
  ·have:a=b:=by omega
   subst this;omega
variable {A : Aut}
theorem Qp {Q:Aut} (hA:A.Good) (hB:Bfs A) (hQ:Mq A Q) {s c:Nat} (hs:s<Q.N) (hc:c<Q.K):
  (Q.to s c<cnt (alB A) (kn A ((reps (alB A) A.N).getD s 0*A.K+fk A (alB A) c))/\cnt (alB A) (kn A ((reps (alB A) A.N).getD s 0*A.K+fk A (alB A) c+1))=cnt (alB A) (kn A ((reps (alB A) A.N).getD s 0*A.K+fk A (alB A) c))) \/
  (Q.to s c=cnt (alB A) (kn A ((reps (alB A) A.N).getD s 0*A.K+fk A (alB A) c))/\cnt (alB A) (kn A ((reps (alB A) A.N).getD s 0*A.K+fk A (alB A) c+1))=cnt (alB A) (kn A ((reps (alB A) A.N).getD s 0*A.K+fk A (alB A) c))+1):=by
 have hs':s<cnt (alB A) A.N:=by rw[<-hQ.n];exact hs
 have hc':c<cnt (Cl (YU A (alB A)) (cnt (alB A) A.N)) A.K:=by rw[<-hQ.k];exact hc
 have hk:=(Yz hc').1;have hr:=(Yz hs').1;rw[hQ.t s c hs hc];rcases V7 hA hs' hk with ⟨p1,p2⟩|⟨m,m1,m2,m3⟩
 ·left;rw[p2];have:=step_none (A:=A) (r:=(reps (alB A) A.N).getD s 0) (k:=fk A (alB A) c) hk (by show A.to _ ((reps _ _).getD c 0)<0;omega);rw[this];exact⟨by omega,rfl⟩
 ·rw[m3];have hE:=alB_eqv A A.N;rcases step_rep hB hr hk m2 with ⟨h1,h2⟩|⟨h1,h2,h3⟩
  ·left;have h4:=cnt_lt (least_idem hE m1) h1;refine⟨?_,congrArg List.length h2⟩;show((cnt (alB A) (least (alB A) m):Nat):Int)<_;exact Int.ofNat_lt.2 h4
  ·right;refine⟨?_,?_⟩
   ·rw[idx_rep h1];exact congrArg (fun x:Nat=>((cnt (alB A) x:Nat):Int)) h2
   ·have:=congrArg List.length h3;rw[List.length_append]at this;exact this
theorem LI (hA:A.Good) (hB:Bfs A) {s k:Nat} (hs:s<cnt (alB A) A.N) (hk:k<A.K) (hn:least (Cl (YU A (alB A)) (cnt (alB A) A.N)) k≠k):
  cnt (alB A) (kn A ((reps (alB A) A.N).getD s 0*A.K+k+1))=cnt (alB A) (kn A ((reps (alB A) A.N).getD s 0*A.K+k)):=by
 have hCE:=UN (YU A (alB A)) (cnt (alB A) A.N) A.K;have hE:=alB_eqv A A.N;have hl:=least_le (Cl (YU A (alB A)) (cnt (alB A) A.N)) k;obtain⟨k0,hk0⟩:=nam (least (Cl (YU A (alB A)) (cnt (alB A) A.N)) k);have hcl:Cl (YU A (alB A)) (cnt (alB A) A.N) k0 k=true:=by rw[hk0];exact least_like hCE hk
 rw[<-hk0]at hl hn;have h1:=(VO _ _ _ _).1 hcl s hs;have hr:=(Yz hs).1;rcases V7 hA hs hk with ⟨p1,p2⟩|⟨m,m1,m2,m3⟩
 ·rw[step_none (A:=A) hk (by omega)]
 ·rcases V7 hA hs (show k0<A.K by omega)with ⟨q1,q2⟩|⟨m',n1,n2,n3⟩
  ·omega
  ·have e:idx (alB A) m'=idx (alB A) m:=by omega
   have e2:=least_of_like hE n1 m1 ((idx_eq hE n1 m1).1 e);have h5:=least_le (alB A) m';have h6:=hB.lt (time_lt hr (show k0<A.K by omega));rw[fl_at A (show k0<A.K by omega),n2]at h6;have h7:=kn_mono A (show(reps (alB A) A.N).getD s 0*A.K+k0+1<=(reps (alB A) A.N).getD s 0*A.K+k by omega);rcases step_rep hB hr hk m2 with ⟨_,h2⟩|⟨g1,g2,_⟩
   ·exact congrArg List.length h2
   ·omega
theorem OJ (hA:A.Good) (hB:Bfs A) {s:Nat} (hs:s<cnt (alB A) A.N) (a:Nat):∀d,a+d<=A.K->(∀k,a<=k->k<a+d->least (Cl (YU A (alB A)) (cnt (alB A) A.N)) k≠k) ->
  cnt (alB A) (kn A ((reps (alB A) A.N).getD s 0*A.K+(a+d)))=cnt (alB A) (kn A ((reps (alB A) A.N).getD s 0*A.K+a))
 |0,_,_=>rfl
 |d+1,h,hn=>by
  have ih:=OJ hA hB hs a d (by omega) (fun k h1 h2=>hn k h1 (by omega));have:=LI hA hB hs (show a+d<A.K by omega) (hn _ (by omega) (by omega));rw[<-ih,<-this];rfl
def fx (A:Aut) (E:Nat->Nat->Bool) (c:Nat):Nat:=if c<cnt (Cl (YU A E) (cnt E A.N)) A.K then fk A E c else A.K
theorem Rr {Q:Aut} (hA:A.Good) (hB:Bfs A) (hQ:Mq A Q) {s:Nat} (hs:s<Q.N) (h0:kn Q (s*Q.K)=cnt (alB A) (kn A ((reps (alB A) A.N).getD s 0*A.K+fx A (alB A) 0))):
  ∀c,c<=Q.K->kn Q (s*Q.K+c)=cnt (alB A) (kn A ((reps (alB A) A.N).getD s 0*A.K+fx A (alB A) c))
 |0,_=>h0
 |c+1,hc=>by
  have ih:=Rr hA hB hQ hs h0 c (by omega);have hcQ:c<Q.K:=by omega
  have hs':s<cnt (alB A) A.N:=by rw[<-hQ.n];exact hs
  have hc':c<cnt (Cl (YU A (alB A)) (cnt (alB A) A.N)) A.K:=by rw[<-hQ.k];exact hcQ
  obtain⟨a1,a2,a3⟩:=Yz hc';have hfx:fx A (alB A) c=fk A (alB A) c:=if_pos hc';rw[hfx]at ih;have a1':fk A (alB A) c<A.K:=a1;have a2':least (Cl (YU A (alB A)) (cnt (alB A) A.N)) (fk A (alB A) c)=fk A (alB A) c:=a2;have a3':cnt (Cl (YU A (alB A)) (cnt (alB A) A.N)) (fk A (alB A) c)=c:=a3;have hnx:fk A (alB A) c+1<=fx A (alB A) (c+1)/\fx A (alB A) (c+1)<=A.K/\∀k,fk A (alB A) c+1<=k->k<fx A (alB A) (c+1)->least (Cl (YU A (alB A)) (cnt (alB A) A.N)) k≠k:=by
   by_cases hlt:c+1<cnt (Cl (YU A (alB A)) (cnt (alB A) A.N)) A.K
   ·obtain⟨b1,b2,b3⟩:=Yz hlt;have hfx2:fx A (alB A) (c+1)=fk A (alB A) (c+1):=if_pos hlt;have b1':fk A (alB A) (c+1)<A.K:=b1;have b2':least (Cl (YU A (alB A)) (cnt (alB A) A.N)) (fk A (alB A) (c+1))=fk A (alB A) (c+1):=b2;have b3':cnt (Cl (YU A (alB A)) (cnt (alB A) A.N)) (fk A (alB A) (c+1))=c+1:=b3;rw[hfx2];refine⟨NO a2' b2' (by omega),by omega,fun k h1 h2 h3=>?_⟩;have x1:=cnt_lt a2' (show fk A (alB A) c<k by omega);have x2:=cnt_lt h3 h2;omega
   ·have hfx2:fx A (alB A) (c+1)=A.K:=if_neg hlt;rw[hfx2];refine⟨by omega,Nat.le_refl _,fun k h1 h2 h3=>?_⟩;have x1:=cnt_lt a2' (show fk A (alB A) c<k by omega);have x2:=cnt_lt h3 h2;omega
  obtain⟨n1,n2,n3⟩:=hnx;obtain⟨d,hd⟩:∃d,fx A (alB A) (c+1)=fk A (alB A) c+1+d:=⟨fx A (alB A) (c+1)-(fk A (alB A) c+1),by omega⟩;have hrun:=OJ hA hB hs' (fk A (alB A) c+1) d (by omega) (fun k h1 h2=>n3 k h1 (by omega));rw[hd,hrun];show kn Q (s*Q.K+c+1)=_;rw[kn,fl_at Q hcQ,ih];rcases Qp hA hB hQ hs hcQ with ⟨h1,h2⟩|⟨h1,h2⟩
  ·rw[if_neg (by omega)];exact h2.symm
  ·rw[if_pos h1];exact h2.symm
theorem Ua (hn:0<n):(reps E n).getD 0 0=0:=by
 have h0:=Nat.le_zero.1 (least_le E 0);have h1:0<cnt E n:=Nat.lt_of_le_of_lt (Nat.zero_le _) (cnt_lt h0 hn);obtain⟨a1,a2,a3⟩:=Yz h1;rcases Nat.eq_zero_or_pos ((reps E n).getD 0 0)with h|h
 ·exact h
 ·have:=cnt_lt h0 h;omega
theorem Rs {Q:Aut} (hA:A.Good) (hB:Bfs A) (hQ:Mq A Q) (hK:0<A.K):∀s,s<Q.N->kn Q (s*Q.K)=cnt (alB A) (kn A ((reps (alB A) A.N).getD s 0*A.K+fx A (alB A) 0))
 |0,hs=>by
  have hf:fx A (alB A) 0=0:=by
   unfold fx;split
   ·exact Ua hK
   ·rename_i h;have h0:least (Cl (YU A (alB A)) (cnt (alB A) A.N)) 0=0:=Nat.le_zero.1 (least_le _ 0);have:=cnt_lt h0 hK;omega
  rw[Ua hB.pos,hf];simp only[Nat.zero_mul,Nat.add_zero,kn];rw[cnt_succ,if_pos (Nat.le_zero.1 (least_le _ 0))];rfl
 |s+1,hs=>by
  have hs0:s<Q.N:=by omega
  have ih:=Rr hA hB hQ hs0 (Rs hA hB hQ hK s hs0) Q.K (Nat.le_refl _);have hs':s<cnt (alB A) A.N:=by rw[<-hQ.n];exact hs0
  have hs1:s+1<cnt (alB A) A.N:=by rw[<-hQ.n];exact hs
  obtain⟨a1,a2,a3⟩:=Yz hs';obtain⟨b1,b2,b3⟩:=Yz hs1;have hfK:fx A (alB A) Q.K=A.K:=if_neg (by rw[hQ.k];omega);have hf0:fx A (alB A) 0=0:=by
   unfold fx;split
   ·exact Ua hK
   ·rename_i h;have h0:least (Cl (YU A (alB A)) (cnt (alB A) A.N)) 0=0:=Nat.le_zero.1 (least_le _ 0);have:=cnt_lt h0 hK;omega
  obtain⟨r,hr⟩:=nam ((reps (alB A) A.N).getD s 0);obtain⟨r',hr'⟩:=nam ((reps (alB A) A.N).getD (s+1) 0);rw[hfK]at ih;rw[<-hr]at ih a1 a2 a3;rw[<-hr']at b1 b2 b3 ⊢;rw[hf0,Nat.add_zero];have e1:r*A.K+A.K=(r+1)*A.K:=by rw[Nat.add_mul,Nat.one_mul]
  have e2:(s+1)*Q.K=s*Q.K+Q.K:=by rw[Nat.add_mul,Nat.one_mul]
  rw[e1]at ih;rw[e2,ih];have hlt:r<kn A ((r+1)*A.K):=Nat.lt_of_lt_of_le (hB.row r a1) (kn_mono A (Nat.mul_le_mul_right _ (by omega)));have h1:(reps (alB A) (kn A ((r+1)*A.K)))[s]?=some r:=by
   have:=reps_get (alB A) _ r hlt a2;rw[a3]at this;exact this
  have hle:=(List.getElem?_eq_some_iff.1 h1).1;by_cases h2:s+1<cnt (alB A) (kn A ((r+1)*A.K))
  ·obtain⟨c1,c2,c3⟩:=Yz h2;have h3:=OQ h2;have e3:(reps (alB A) (kn A ((r+1)*A.K))).getD (s+1) 0=r':=cnt_inj c2 b2 (by omega);rw[e3]at h3;obtain⟨_,_,_,h4⟩:=next_rep hA hB a1 h1 h3;exact congrArg List.length h4
  ·have h3:(reps (alB A) (kn A ((r+1)*A.K))).length=s+1:=by
    have:cnt (alB A) (kn A ((r+1)*A.K))=(reps (alB A) (kn A ((r+1)*A.K))).length:=rfl;omega
   have h4:=congrArg List.length (last_rep hA hB a1 h1 h3);have:cnt (alB A) A.N=(reps (alB A) A.N).length:=rfl;omega
theorem Js {Q:Aut} (hA:A.Good) (hB:Bfs A) (hQ:Mq A Q) (hK:0<A.K):Bfs Q:=by
 have hS:0<Q.N:=by
  rw[hQ.n];exact Nat.lt_of_le_of_lt (Nat.zero_le _) (cnt_lt (Nat.le_zero.1 (least_le _ 0)) hB.pos)
 have hcol:∀s c,s<Q.N->c<=Q.K->kn Q (s*Q.K+c)=_:=fun s c hs hc=>Rr hA hB hQ hs (Rs hA hB hQ hK s hs) c hc
 have hp:0<Q.K:=by
  rw[hQ.k];exact Nat.lt_of_le_of_lt (Nat.zero_le _) (cnt_lt (Nat.le_zero.1 (least_le _ 0)) hK)
 refine⟨hS,fun t ht=>?_,fun s hs=>?_,?_⟩
 ·have h1:t/Q.K<Q.N:=Nat.div_lt_of_lt_mul (by rw[Nat.mul_comm];exact ht);have h2:t%Q.K<Q.K:=Nat.mod_lt _ hp;have e:t=t/Q.K*Q.K+t%Q.K:=by rw[Nat.mul_comm];exact(Nat.div_add_mod t Q.K).symm
  have h3:=hcol _ _ h1 (Nat.le_of_lt h2);have hfx:fx A (alB A) (t%Q.K)=fk A (alB A) (t%Q.K):=if_pos (by rw[<-hQ.k];exact h2);rw[hfx,<-e]at h3;rw[h3];show Q.to (t/Q.K) (t%Q.K)<=_;rcases Qp hA hB hQ h1 h2 with ⟨h4,_⟩|⟨h4,_⟩<;>omega
 ·have hs':s<cnt (alB A) A.N:=by rw[<-hQ.n];exact hs
  obtain⟨a1,a2,a3⟩:=Yz hs';rw[Rs hA hB hQ hK s hs];have h1:(reps (alB A) A.N).getD s 0<kn A ((reps (alB A) A.N).getD s 0*A.K+fx A (alB A) 0):=Nat.lt_of_lt_of_le (hB.row _ a1) (kn_mono A (Nat.le_add_right _ _));have:=cnt_lt a2 h1;omega
 ·obtain⟨S,hSe⟩:∃S,Q.N=S+1:=⟨Q.N-1,by omega⟩;have hs:S<Q.N:=by omega
  have hs':S<cnt (alB A) A.N:=by rw[<-hQ.n];exact hs
  obtain⟨a1,a2,a3⟩:=Yz hs';have h3:=hcol S Q.K hs (Nat.le_refl _);have hfK:fx A (alB A) Q.K=A.K:=if_neg (by rw[hQ.k];omega);rw[hfK]at h3;obtain⟨r,hr⟩:=nam ((reps (alB A) A.N).getD S 0);rw[<-hr]at h3 a1 a2 a3;have e1:r*A.K+A.K=(r+1)*A.K:=by rw[Nat.add_mul,Nat.one_mul]
  have e2:Q.N*Q.K=S*Q.K+Q.K:=by rw[hSe,Nat.add_mul,Nat.one_mul]
  rw[e2,h3,e1];have hlt:r<kn A ((r+1)*A.K):=Nat.lt_of_lt_of_le (hB.row r a1) (kn_mono A (Nat.mul_le_mul_right _ (by omega)));have h1:(reps (alB A) (kn A ((r+1)*A.K)))[S]?=some r:=by
   have:=reps_get (alB A) _ r hlt a2;rw[a3]at this;exact this
  have hle:=(List.getElem?_eq_some_iff.1 h1).1;have hup:cnt (alB A) (kn A ((r+1)*A.K))<=cnt (alB A) A.N:=cnt_mono _ (kn_le hB (Nat.mul_le_mul_right _ a1));have hl:(reps (alB A) (kn A ((r+1)*A.K))).length=S+1:=by
   have e3:cnt (alB A) (kn A ((r+1)*A.K))=(reps (alB A) (kn A ((r+1)*A.K))).length:=rfl;have:=hQ.n;omega
  have h4:=congrArg List.length (last_rep hA hB a1 h1 hl);have e5:cnt (alB A) (kn A ((r+1)*A.K))=(reps (alB A) (kn A ((r+1)*A.K))).length:=rfl;have:=hQ.n;omega
def Rl (A B:Aut) (s s':Int):Prop:=∀w,Kd A w->ext A s w=ext B s' w
theorem Rl.to {B:Aut}{s':Nat} (h:Rl A B s s') (hk:k<A.K):Rl A B (A.to s k) (B.to s' k):=fun w hw=>by
 have:=h (k::w) (Kd.cons hk hw)
 rwa [ext_cons,ext_cons]at this
theorem Rl.right {B:Aut}{s:Int}{a b:Int} (hK:A.K=B.K) (h:Rl A B s a) (k:Rl A B s b):Al B a b:=fun w hw=>by
 have hw':Kd A w:=fun j hj=>by rw[hK];exact hw j hj
 rw[<-h w hw',<-k w hw']
theorem Rl.left {B:Aut}{s:Int}{a b:Int} (h:Rl A B a s) (k:Rl A B b s):Al A a b:=fun w hw=>by rw[h w hw,k w hw]
structure MG (A:Aut):Prop where
 bfs:Bfs A
 kp:0<A.K
 rng:∀s k,s<A.N->k<A.K->-1<=A.to s k/\A.to s k<A.N
 al:∀s s':Nat,s<A.N->s'<A.N->Al A s s'->s=s'
 live:∀s:Nat,s<A.N->¬Al A s (-1)
theorem Rl.dead {B:Aut}{x y:Int} (hA:MG A) (h:Rl A B x y) (hx:x<A.N) (hy:y<0):x<0:=by
 apply Classical.byContradiction;intro hn;obtain⟨m,hm⟩:=Int.eq_ofNat_of_zero_le (show 0<=x by omega);subst hm;exact hA.live m (by omega) (fun w hw=>by rw[h w hw,ext_none _ _ hy,ext_none _ _ (by omega)])
theorem Rl.dead' {B:Aut}{x y:Int} (hK:A.K=B.K) (hB:MG B) (h:Rl A B x y) (hy:y<B.N) (hx:x<0):y<0:=by
 apply Classical.byContradiction;intro hn;obtain⟨m,hm⟩:=Int.eq_ofNat_of_zero_le (show 0<=y by omega);subst hm;refine hB.live m (by omega) (fun w hw=>?_);rw[<-h w (fun j hj=>by rw[hK];exact hw j hj),ext_none _ _ hx,ext_none _ _ (by omega)]
theorem Oq {B:Aut} (hA:MG A) (hB:MG B) (hK:A.K=B.K) (h0:Rl A B 0 0):∀t,t<=A.N*A.K->t<=B.N*B.K->kn A t=kn B t/\(∀s:Nat,s<kn A t->Rl A B s s)/\∀i,i<t->fl A i=fl B i
 |0,_,_=>⟨rfl,fun s hs=>by
   have:s=0:=by simp[kn]at hs;omega
   subst this;exact h0,fun i hi=>by omega⟩
 |t+1,h1,h2=>by
  obtain⟨e1,e2,e3⟩:=Oq hA hB hK h0 t (by omega) (by omega);have hdm:=Nat.div_add_mod t A.K;have hml:=Nat.mod_lt t hA.kp;have hsA:t/A.K<A.N:=by
   rw[Nat.div_lt_iff_lt_mul hA.kp];omega
  have hsB:t/A.K<B.N:=by
   rw[Nat.div_lt_iff_lt_mul hA.kp,hK];omega
  have hrow:=hA.bfs.row (t/A.K) hsA;have hmo:=kn_mono A (show t/A.K*A.K<=t by rw[Nat.mul_comm];omega);have hR:=(e2 (t/A.K) (by omega)).to hml;have fA:fl A t=A.to (t/A.K) (t%A.K):=rfl;have fB:fl B t=B.to (t/A.K) (t%A.K):=by rw[hK];rfl
  rw[<-fA,<-fB]at hR;have rA:=hA.rng _ _ hsA hml;have rB:=hB.rng _ _ hsB (show t%A.K<B.K by omega);rw[<-fA]at rA;rw[<-fB]at rB;have lA:=hA.bfs.le t (by omega);have lB:=hB.bfs.le t (by omega);have kA:=kn_le hA.bfs (t:=t) (by omega);have kB:=kn_le hB.bfs (t:=t) (by omega);have hfe:fl A t=fl B t:=by
   by_cases x0:fl A t<0
   ·have:=hR.dead' hK hB rB.2 x0;omega
   ·have y0:¬fl B t<0:=fun h=>x0 (hR.dead hA rA.2 h)
    obtain⟨x,hx⟩:=Int.eq_ofNat_of_zero_le (show 0<=fl A t by omega);obtain⟨y,hy⟩:=Int.eq_ofNat_of_zero_le (show 0<=fl B t by omega);rw[hx,hy]at hR;rcases Nat.lt_or_ge x (kn A t)with hl|hl
    ·have:=hB.al x y (by omega) (by omega) (Rl.right hK (e2 x hl) hR);omega
    ·rcases Nat.lt_or_ge y (kn A t)with hl2|hl2
     ·have:=hA.al x y (by omega) (by omega) (Rl.left hR (e2 y hl2));omega
     ·omega
  have hkn:kn A (t+1)=kn B (t+1):=by rw[kn,kn,hfe,e1]
  refine⟨hkn,fun s hs=>?_,fun i hi=>?_⟩
  ·rcases Nat.lt_or_ge s (kn A t)with hl|hl
   ·exact e2 s hl
   ·rw[kn]at hs;split at hs
    ·rename_i hq;have es:s=kn A t:=by omega
     rw[<-hfe,hq]at hR;rw[es];exact hR
    ·omega
  ·by_cases e:i=t
   ·subst e;exact hfe
   ·exact e3 i (by omega)
theorem Mm {B:Aut} (hA:MG A) (hB:MG B) (hK:A.K=B.K) (h0:Rl A B 0 0) (hle:A.N<=B.N):A.N=B.N/\(∀s k,s<A.N->k<A.K->A.to s k=B.to s k)/\∀s,s<A.N->A.vd s=B.vd s:=by
 obtain⟨e1,e2,e3⟩:=Oq hA hB hK h0 (A.N*A.K) (Nat.le_refl _) (by rw[<-hK];exact Nat.mul_le_mul_right _ hle);have ha:=hA.bfs.all;have hN:A.N=B.N:=by
  apply Classical.byContradiction;intro hn;have:=hB.bfs.row A.N (by omega);rw[<-hK,<-e1,ha]at this;omega
 refine⟨hN,fun s k hs hk=>?_,fun s hs=>?_⟩
 ·have ht:=time_lt hs hk;have:=e3 _ ht;rw[fl_at A hk]at this;rw[this,hK,fl_at B (by omega)]
 ·have:=e2 s (by omega) [] (Kd.nil A)
  rwa [ext_nil,ext_nil]at this
theorem Rl.symm {B:Aut} (hK:A.K=B.K) {s s':Int} (h:Rl A B s s'):Rl B A s' s:=fun w hw=>(h w (fun j hj=>by rw[hK];exact hw j hj)).symm
theorem JU {B:Aut} (hA:MG A) (hB:MG B) (hK:A.K=B.K) (h0:Rl A B 0 0):A.N=B.N/\(∀s k,s<A.N->k<A.K->A.to s k=B.to s k)/\∀s,s<A.N->A.vd s=B.vd s:=by
 rcases Nat.le_total A.N B.N with h|h
 ·exact Mm hA hB hK h0 h
 ·obtain⟨a,b,c⟩:=Mm hB hA hK.symm (h0.symm hK) h;exact⟨a.symm,fun s k hs hk=>(b s k (by omega) (by omega)).symm,fun s hs=>(c s (by omega)).symm⟩
structure Uo (base tb N:Nat) (rk:Nat->Nat) (t:Nat->Nat->Bool) (m:Nat) (w:World):Prop where
 c:∀i,i<m->w.cell? ⟨tb,i,none⟩=some (.slice (some ⟨rk i,0,none⟩) (N+1) (N+1))
 z:∀i,m<=i->i<N+1->w.cell? ⟨tb,i,none⟩=some (.slice none 0 0)
 f:∀i,i<N+1->w.frozen? ⟨tb,i,none⟩=false
 r:∀i,i<m->TC (rk i) (bl (t i) (N+1)) w
 inj:∀i j,i<m->j<m->rk i=rk j->i=j
 ne:∀i,i<m->rk i≠tb/\base<=rk i
theorem Uo.keep (h:Uo base tb N rk t m w) (h0:w'.heap[tb]?=w.heap[tb]?) (hk:∀i,i<m->w'.heap[rk i]?=w.heap[rk i]?):Uo base tb N rk t m w':=
 ⟨fun i hi=>by rw[World.cell?_of_block (w:=w) (a:=⟨tb,i,none⟩) h0];exact h.c i hi,
  fun i h1 h2=>by rw[World.cell?_of_block (w:=w) (a:=⟨tb,i,none⟩) h0];exact h.z i h1 h2,
  fun i hi=>by rw[World.frozen?_of_block (w:=w) (a:=⟨tb,i,none⟩) h0];exact h.f i hi,
  fun i hi=>(h.r i hi).block (hk i hi),h.inj,h.ne⟩
theorem Uo.congr {t':Nat->Nat->Bool} (h:Uo base tb N rk t m w) (e:∀i j,i<m->j<N+1->t i j=t' i j):Uo base tb N rk t' m w:=
 ⟨h.c,h.z,h.f,fun i hi=>by rw[<-YO (f:=t i) (fun j hj=>e i j hi hj)];exact h.r i hi,h.inj,h.ne⟩
def Va (t:Nat->Nat->Bool) (i j:Nat) (x:Bool) (a b:Nat):Bool:=if a=i/\b=j then x else t a b
theorem Uo.set (h:Uo base tb N rk t m w) {i j:Nat} (hi:i<m) (hj:j<N+1) (x:Bool):Uo base tb N rk (Va t i j x) m (w.setCell ⟨rk i,j,none⟩ (.bool x)):=by
 have hb:∀k,k≠rk i->(w.setCell ⟨rk i,j,none⟩ (.bool x)).heap[k]?=w.heap[k]?:=fun k hk=>Below.heap_setCell w ⟨rk i,j,none⟩ _ k (fun e=>hk e)
 have h0:=hb tb (fun e=>(h.ne i hi).1 e.symm);refine⟨fun a ha=>?_,fun a h1 h2=>?_,fun a ha=>?_,fun a ha=>?_,h.inj,h.ne⟩
 ·rw[World.cell?_of_block (w:=w) (a:=⟨tb,a,none⟩) h0];exact h.c a ha
 ·rw[World.cell?_of_block (w:=w) (a:=⟨tb,a,none⟩) h0];exact h.z a h1 h2
 ·rw[World.frozen?_of_block (w:=w) (a:=⟨tb,a,none⟩) h0];exact h.f a ha
 ·by_cases e:a=i
  ·subst e;have:=(h.r a ha).set j (by rw[Y7];exact hj) (.bool x);rw[Vm]at this;rw[YO (g:=fun b=>if b=j then x else t a b) (fun b hb=>?_)]
   ·exact this
   ·simp[Va]
  ·rw[YO (g:=t a) (fun b hb=>by simp[Va,e])];exact(h.r a ha).block (hb _ (fun e'=>e (h.inj a i ha hi e')))
theorem Uo.blk (h:Uo base tb N rk t m w):∀i,i<m->rk i<w.heap.size:=fun i hi=>World.block_lt_of_cell? w _ ((h.r i hi) 0 _ (YN _ (by omega))).1
theorem Uo.row (h:Uo base tb N rk t m w) (hm:m<N+1) (ht:tb<w.heap.size) (hb:base<=w.heap.size) (ty:TypeId):
  Uo base tb N (fun a=>if a=m then w.heap.size else rk a) (fun a b=>if a=m then false else t a b) (m+1) ((w.alloc (.cells (bl (fun _=>false) (N+1)).toArray ty)).setCell ⟨tb,m,none⟩ (.slice (some ⟨w.heap.size,0,none⟩) (N+1) (N+1))):=by
 obtain⟨W,hW⟩:=nam (w.alloc (.cells (bl (fun _=>false) (N+1)).toArray ty));have B:Below w.heap.size w W:=by rw[hW];exact box_bel _ _
 have T:TC w.heap.size (bl (fun _=>false) (N+1)) W:=by rw[hW];exact TC.boxed w _ _
 have h1:=h.keep (B.block tb ht) (fun i hi=>B.block (rk i) (h.blk i hi));have hne:w.heap.size≠tb:=by omega
 rw[<-hW];have hk:∀k,k≠tb->(W.setCell ⟨tb,m,none⟩ (.slice (some ⟨w.heap.size,0,none⟩) (N+1) (N+1))).heap[k]?=W.heap[k]?:=fun k hk=>Below.heap_setCell W ⟨tb,m,none⟩ _ k (fun e=>hk e)
 have hcm:=h1.z m (Nat.le_refl _) hm;have hcs:∀a,a≠m->(W.setCell ⟨tb,m,none⟩ (.slice (some ⟨w.heap.size,0,none⟩) (N+1) (N+1))).cell? ⟨tb,a,none⟩=W.cell? ⟨tb,a,none⟩:=fun a ha=>World.cell?_setCell_other _ ⟨tb,m,none⟩ ⟨tb,a,none⟩ _ (fun e=>ha (by cases e;rfl))
 refine⟨fun a ha=>?_,fun a h2 h3=>?_,fun a ha=>?_,fun a ha=>?_,fun a b ha hb' e=>?_,fun a ha=>?_⟩
 ·by_cases e:a=m
  ·subst e;simp only[if_true];exact World.cell?_setCell_same _ _ _ hcm
  ·simp only[e,if_false];rw[hcs a e];exact h1.c a (by omega)
 ·rw[hcs a (by omega)];exact h1.z a (by omega) h3
 ·rw[World.frozen?_setCell];exact h1.f a ha
 ·by_cases e:a=m
  ·subst e;simp only[if_true];exact T.block (hk _ hne)
  ·simp only[e,if_false];exact(h1.r a (by omega)).block (hk _ (h1.ne a (by omega)).1)
 ·by_cases e1:a=m
  ·by_cases e2:b=m
   ·omega
   ·simp only[e1,e2,if_true,if_false]at e;have:=h.blk b (by omega);omega
  ·by_cases e2:b=m
   ·simp only[e1,e2,if_true,if_false]at e;have:=h.blk a (by omega);omega
   ·simp only[e1,e2,if_false]at e;exact h.inj a b (by omega) (by omega) e
 ·by_cases e:a=m
  ·simp only[e,if_true];exact⟨hne,hb⟩
  ·simp only[e,if_false];exact h.ne a (by omega)
end Go.Proofs.Ytoaaklhpmhjhkab
