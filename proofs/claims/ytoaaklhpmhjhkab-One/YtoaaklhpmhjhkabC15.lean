import Derived.Test.YtoaaklhpmhjhkabC05
set_option maxRecDepth 100000
set_option maxHeartbeats 4000000
set_option linter.all false
namespace Go.Proofs.Ytoaaklhpmhjhkab
namespace Bm
def fl (A:Aut) (t:Nat):Int:=A.to (t/A.K) (t%A.K)
def kn (A:Aut):Nat->Nat
 |0=>1
 |t+1=>if fl A t=(kn A t:Int) then kn A t+1 else kn A t
theorem kn_mono (A:Aut) {s t:Nat} (h:s<=t):kn A s<=kn A t:=by
 induction t with
 |zero=>
   have:s=0:=by omega
   subst this;exact Nat.le_refl _
 |succ t ih=>
  by_cases e:s=t+1
  ·subst e;exact Nat.le_refl _
  ·have:=ih (by omega);rw[kn];split<;>omega
theorem fl_at (A:Aut) {s k:Nat} (hk:k<A.K):fl A (s*A.K+k)=A.to s k:=by
 unfold fl;have hp:0<A.K:=by omega
 rw[Nat.mul_comm,Nat.mul_add_div hp,Nat.div_eq_of_lt hk,Nat.add_zero,Nat.mul_add_mod,Nat.mod_eq_of_lt hk]
structure Bfs (A:Aut):Prop where
 pos:0<A.N
 le:∀t,t<A.N*A.K->fl A t<=kn A t
 row:∀s,s<A.N->s<kn A (s*A.K)
 all:kn A (A.N*A.K)=A.N
variable {A : Aut}
theorem Bfs.lt (h:Bfs A) {t:Nat} (ht:t<A.N*A.K):fl A t<kn A (t+1):=by
 have h1:=h.le t ht;rw[kn];split<;>omega
theorem kn_le (h:Bfs A) {t:Nat} (ht:t<=A.N*A.K):kn A t<=A.N:=by
 have:=kn_mono A ht;rw[h.all]at this;exact this
variable {k s : Nat}
theorem time_lt (hs:s<A.N) (hk:k<A.K):s*A.K+k<A.N*A.K:=by
 have:(s+1)*A.K<=A.N*A.K:=Nat.mul_le_mul_right _ hs;rw[Nat.add_mul]at this;omega
theorem step_rep (hB:Bfs A) {r k m:Nat} (hr:r<A.N) (hk:k<A.K) (hm:A.to r k=(m:Int)):
  (least (alB A) m<kn A (r*A.K+k)/\reps (alB A) (kn A (r*A.K+k+1))=reps (alB A) (kn A (r*A.K+k))) \/
  (least (alB A) m=m/\m=kn A (r*A.K+k)/\reps (alB A) (kn A (r*A.K+k+1))=reps (alB A) (kn A (r*A.K+k))++[m]):=by
 have ht:=time_lt hr hk;have hf:=fl_at A (s:=r) hk;have hl:=hB.le _ ht;have hle:=least_le (alB A) m;rw[hf,hm]at hl;by_cases e:m=kn A (r*A.K+k)
 ·have hk1:kn A (r*A.K+k+1)=m+1:=by rw[kn,hf,hm,if_pos (by omega)];omega
  rw[hk1,reps_succ,<-e];by_cases h:least (alB A) m=m
  ·rw[if_pos h];exact Or.inr ⟨h,rfl,rfl⟩
  ·rw[if_neg h,List.append_nil];exact Or.inl ⟨by omega,rfl⟩
 ·have hk1:kn A (r*A.K+k+1)=kn A (r*A.K+k):=by rw[kn,hf,hm,if_neg (by omega)]
  rw[hk1];exact Or.inl ⟨by omega,rfl⟩
theorem step_none {r:Nat} (hk:k<A.K) (hm:A.to r k<0):kn A (r*A.K+k+1)=kn A (r*A.K+k):=by
 rw[kn,fl_at A hk,if_neg (by omega)]
theorem row_other (hA:A.Good) (hB:Bfs A) {q:Nat} (hq:q<A.N) (hn:least (alB A) q≠q):∀k,k<=A.K->reps (alB A) (kn A (q*A.K+k))=reps (alB A) (kn A (q*A.K)):=by
 intro k
 induction k with
 |zero=>intro _;rfl
 |succ k ih=>
  intro hk;have hk':k<A.K:=by omega
  have hE:=alB_eqv A A.N;rw[<-ih (by omega),<-Nat.add_assoc];have hrng:=hA.rng q k hq hk';rcases Int.lt_or_le (A.to q k) 0 with h0|h0
  ·rw[step_none hk' h0]
  ·obtain⟨m,hm⟩:=Int.eq_ofNat_of_zero_le h0;rcases step_rep hB hq hk' hm with h|⟨h1,h2,_⟩
   ·exact h.2
   ·exfalso;have hlq:=least_le (alB A) q;have hg:Al A (least (alB A) q:Nat) q:=(alB_iff A _ _).1 (least_like hE hq);generalize least (alB A) q=g at *;have hgq:g<q:=by omega
    have hal:=hg.to hk';rw[hm]at hal;have hr2:=hA.rng g k (by omega) hk';rcases Int.lt_or_le (A.to g k) 0 with h3|h3
    ·have:A.to g k=-1:=by omega
     rw[this]at hal;exact hA.live m (by omega) hal.symm
    ·obtain⟨p,hp⟩:=Int.eq_ofNat_of_zero_le h3;rw[hp]at hal;have ht:=hB.lt (time_lt (show g<A.N by omega) hk');rw[fl_at A hk',hp]at ht;have hmono:=kn_mono A (s:=g*A.K+k+1) (t:=q*A.K+k) (by
      have:(g+1)*A.K<=q*A.K:=Nat.mul_le_mul_right _ hgq;rw[Nat.add_mul]at this;omega)
     have hlp:=least_of_like hE (by omega) (show m<A.N by omega) ((alB_iff A p m).2 hal);have:=least_le (alB A) p;omega
theorem rows_other (hA:A.Good) (hB:Bfs A) {a:Nat}:∀d,a+d<=A.N->(∀q,a<=q->q<a+d->least (alB A) q≠q)->reps (alB A) (kn A ((a+d)*A.K))=reps (alB A) (kn A (a*A.K))
 |0,_,_=>rfl
 |d+1,h,hn=>by
  rw[<-rows_other hA hB d (by omega) (fun q h1 h2=>hn q h1 (by omega)),<-row_other hA hB (show a+d<A.N by omega) (hn (a+d) (by omega) (by omega)) A.K (Nat.le_refl _),<-Nat.add_assoc,Nat.add_mul,Nat.one_mul]
theorem next_rep (hA:A.Good) (hB:Bfs A) {r i r':Nat} (hr:r<A.N) (h1:(reps (alB A) (kn A ((r+1)*A.K)))[i]?=some r) (h2:(reps (alB A) (kn A ((r+1)*A.K)))[i+1]?=some r'):
  r<r'/\r'<A.N/\least (alB A) r'=r'/\reps (alB A) (kn A ((r+1)*A.K))=reps (alB A) (kn A (r'*A.K)):=by
 obtain⟨a1,a2,a3⟩:=reps_mem h1;obtain⟨b1,b2,b3⟩:=reps_mem h2;have hkn:=kn_le hB (t:=(r+1)*A.K) (Nat.mul_le_mul_right _ hr);have hlt:r<r':=by
  rcases Nat.lt_or_ge r r' with h|h
  ·exact h
  ·have:=cnt_mono (alB A) h;omega
 refine⟨hlt,by omega,b2,?_⟩;have h3:=rows_other hA hB (a:=r+1) (r'-(r+1)) (by omega) (fun q h1 h2 hq=>by
  have c1:=cnt_lt a2 (show r<q by omega);have c2:=cnt_lt hq (show q<r' by omega);omega)
 rw[show r+1+(r'-(r+1))=r' by omega]at h3;exact h3.symm
theorem last_rep (hA:A.Good) (hB:Bfs A) {r i:Nat} (hr:r<A.N) (h1:(reps (alB A) (kn A ((r+1)*A.K)))[i]?=some r) (h2:(reps (alB A) (kn A ((r+1)*A.K))).length=i+1):
  reps (alB A) (kn A ((r+1)*A.K))=reps (alB A) A.N:=by
 obtain⟨a1,a2,a3⟩:=reps_mem h1;have hno:∀d,r+1+d<=A.N->∀q,r+1<=q->q<r+1+d->least (alB A) q≠q:=by
  intro d
  induction d with
  |zero=>intro _ q h3 h4;omega
  |succ d ih=>
   intro hd q h3 h4 hq;have ih':=ih (by omega);by_cases e:q=r+1+d
   ·subst e;have h5:=rows_other hA hB (a:=r+1) d (by omega) ih';have h6:=hB.row (r+1+d) (by omega);have h7:=reps_get (alB A) _ _ h6 hq;rw[h5]at h7;have h8:=(List.getElem?_eq_some_iff.1 h7).1;have h9:=cnt_lt a2 (show r<r+1+d by omega);omega
   ·exact ih' q h3 (by omega) hq
 have h3:=rows_other hA hB (a:=r+1) (A.N-(r+1)) (by omega) (hno _ (by omega));rw[show r+1+(A.N-(r+1))=A.N by omega,hB.all]at h3;exact h3.symm
end Bm
open Go.RowKit
namespace Rx
theorem nul_or_fst:∀(e:Rx) (o:Nat),e.nul=true\/∃p,e.fst o p=true
 |eps,_=>Or.inl rfl
 |lit _,o=>Or.inr ⟨o,by simp[fst]⟩
 |cat a b,o=>by
  rcases nul_or_fst a o with h|⟨p,h⟩
  ·rcases nul_or_fst b (o+a.sz)with k|⟨p,k⟩
   ·exact Or.inl (by simp[nul,h,k])
   ·exact Or.inr ⟨p,by simp[fst,h,k]⟩
  ·exact Or.inr ⟨p,by simp[fst,h]⟩
 |alt a b,o=>by
  rcases nul_or_fst a o with h|⟨p,h⟩
  ·exact Or.inl (by simp[nul,h])
  ·exact Or.inr ⟨p,by simp[fst,h]⟩
 |star _,_=>Or.inl rfl
 |plus a,o=>nul_or_fst a o
 |opt _,_=>Or.inl rfl
inductive Rch (e:Rx) (o:Nat):Nat->Prop
 |last {p:Nat} (h:e.lst o p=true):Rch e o p
 |next {p q:Nat} (h:e.fol o p q=true) (k:Rch e o q):Rch e o p
theorem rch_any:∀(e:Rx) (o p:Nat),o<=p->p<o+e.sz->Rch e o p
 |eps,o,p,h1,h2=>by simp[sz]at h2;omega
 |lit _,o,p,h1,h2=>.last (by simp[sz]at h2;simp[lst];omega)
 |cat a b,o,p,h1,h2=>by
  have hb:∀q,Rch b (o+a.sz) q->Rch (cat a b) o q:=fun q h=>by
   induction h with
   |last h=>exact .last (by simp[lst,h])
   |next h k ih=>exact .next (by simp[fol,h]) ih
  have ha:∀q,Rch a o q->Rch (cat a b) o q:=fun q h=>by
   induction h with
   |last h=>
    rcases nul_or_fst b (o+a.sz)with k|⟨x,k⟩
    ·exact .last (by simp[lst,h,k])
    ·have hx:=fst_rng b _ x k;exact .next (q:=x) (by simp[fol,h,k]) (hb x (rch_any b _ x hx.1 hx.2))
   |next h k ih=>exact .next (by simp[fol,h]) ih
  simp only[sz]at h2;rcases Nat.lt_or_ge p (o+a.sz)with h|h
  ·exact ha p (rch_any a o p h1 h)
  ·exact hb p (rch_any b _ p h (by omega))
 |alt a b,o,p,h1,h2=>by
  have hb:∀q,Rch b (o+a.sz) q->Rch (alt a b) o q:=fun q h=>by
   induction h with
   |last h=>exact .last (by simp[lst,h])
   |next h k ih=>exact .next (by simp[fol,h]) ih
  have ha:∀q,Rch a o q->Rch (alt a b) o q:=fun q h=>by
   induction h with
   |last h=>exact .last (by simp[lst,h])
   |next h k ih=>exact .next (by simp[fol,h]) ih
  simp only[sz]at h2;rcases Nat.lt_or_ge p (o+a.sz)with h|h
  ·exact ha p (rch_any a o p h1 h)
  ·exact hb p (rch_any b _ p h (by omega))
 |star a,o,p,h1,h2=>by
  have ha:∀q,Rch a o q->Rch (star a) o q:=fun q h=>by
   induction h with
   |last h=>exact .last h
   |next h k ih=>exact .next (by simp[fol,h]) ih
  exact ha p (rch_any a o p h1 h2)
 |plus a,o,p,h1,h2=>by
  have ha:∀q,Rch a o q->Rch (plus a) o q:=fun q h=>by
   induction h with
   |last h=>exact .last h
   |next h k ih=>exact .next (by simp[fol,h]) ih
  exact ha p (rch_any a o p h1 h2)
 |opt a,o,p,h1,h2=>by
  have ha:∀q,Rch a o q->Rch (opt a) o q:=fun q h=>by
   induction h with
   |last h=>exact .last h
   |next h k ih=>exact .next h ih
  exact ha p (rch_any a o p h1 h2)
def Full:Rx->Prop
 |eps=>True
 |lit f=>∃b,b<256/\f b=true
 |cat a b=>a.Full/\b.Full
 |alt a b=>a.Full/\b.Full
 |star a=>a.Full
 |plus a=>a.Full
 |opt a=>a.Full
theorem full_has:∀(e:Rx) (o p:Nat),e.Full->o<=p->p<o+e.sz->∃b,b<256/\e.has o p b=true
 |eps,o,p,_,h1,h2=>by simp[sz]at h2;omega
 |lit f,o,p,hf,h1,h2=>by
  obtain⟨b,h3,h4⟩:=hf;have:p=o:=by simp[sz]at h2;omega
  exact⟨b,h3,by simp[has,this,h4]⟩
 |cat a b,o,p,hf,h1,h2=>by
  simp only[sz]at h2;rcases Nat.lt_or_ge p (o+a.sz)with h|h
  ·obtain⟨c,h3,h4⟩:=full_has a o p hf.1 h1 h;exact⟨c,h3,by simp[has,h4]⟩
  ·obtain⟨c,h3,h4⟩:=full_has b _ p hf.2 h (by omega);exact⟨c,h3,by simp[has,h4]⟩
 |alt a b,o,p,hf,h1,h2=>by
  simp only[sz]at h2;rcases Nat.lt_or_ge p (o+a.sz)with h|h
  ·obtain⟨c,h3,h4⟩:=full_has a o p hf.1 h1 h;exact⟨c,h3,by simp[has,h4]⟩
  ·obtain⟨c,h3,h4⟩:=full_has b _ p hf.2 h (by omega);exact⟨c,h3,by simp[has,h4]⟩
 |star a,o,p,hf,h1,h2=>full_has a o p hf h1 h2
 |plus a,o,p,hf,h1,h2=>full_has a o p hf h1 h2
 |opt a,o,p,hf,h1,h2=>full_has a o p hf h1 h2
variable {e : Rx}
theorem nz_full (h:e.Full):e.nz.Full:=by unfold nz;split<;>first|trivial|exact h
theorem row_full {l:List Rx} (h:∀x∈l,x.Full):(rowOf l).Full:=by
 have key:∀(l:List Rx) (a:Rx),a.Full->(∀x∈l,x.Full)->(l.foldl cat a).Full:=by
  intro l
  induction l with
  |nil=>intro a h _;exact h
  |cons x l ih=>intro a h k;exact ih _ ⟨h,k x (by simp)⟩ (fun y hy=>k y (by simp[hy]))
 exact key l eps trivial h
variable {kd : Int}
theorem suf_full {le mo:Nat} (h:e.Full):(suf kd le mo e).Full:=by
 unfold suf
 repeat' split
 ·exact h
 ·exact h
 ·exact h
 ·refine row_full (fun x hx=>?_);obtain⟨i,_,rfl⟩:=List.mem_map.1 hx;split<;>exact h
end Rx
theorem IA:∀(f k:Nat) (ts:List Tq) (e:Rx),Pp f k ts e->(∀q∈ts,q.t.kd=1->∃b,b<256/\q.f b=true)->e.Full:=by
 intro f
 induction f with
 |zero=>intro k ts e h;exact absurd h (by simp[Pp])
 |succ f ih=>
  intro k ts e h hq;rcases k with _|_|k
  ·unfold Pp at h;rcases h with ⟨q,rfl,h2,h3,rfl⟩|⟨a,inn,b,e0,rfl,h2,h3,h4,h5,h6,rfl⟩|⟨q,t,e0,rfl,h2,h3,h4,rfl⟩
   ·exact hq q (by simp) h3
   ·exact Rx.nz_full (ih 2 inn e0 h6 (fun q hx=>hq q (by simp[hx])))
   ·exact Rx.nz_full (Rx.suf_full (ih 0 q e0 h2 (fun x hx=>hq x (by simp[hx]))))
  ·unfold Pp at h;obtain⟨L,rfl,h2,rfl⟩:=h;refine Rx.row_full (fun x hx=>?_);obtain⟨y,hy,rfl⟩:=List.mem_map.1 hx;refine ih 0 y.1 y.2 (h2 y hy) (fun q hz=>hq q ?_);exact List.mem_flatten.2 ⟨y.1,List.mem_map.2 ⟨y,hy,rfl⟩,hz⟩
  ·unfold Pp at h;rcases h with h|⟨r,b,q,e1,e2,rfl,h2,h3,h4,h5,rfl⟩
   ·exact ih 1 ts e h hq
   ·exact⟨ih 1 r e1 h4 (fun x hx=>hq x (by simp[hx])),ih 2 q e2 h5 (fun x hx=>hq x (by simp[hx]))⟩
variable {ck : List Int}{b d k n s : Nat}{f : Nat → Bool}{nx : Nat → Int}
theorem GW:∀n,Rf.cntTo f n≠0->∃b,b<n/\f b=true:=by
 intro n
 induction n with
 |zero=>intro h;exact absurd rfl h
 |succ n ih=>
  intro h;by_cases hf:f n=true
  ·exact⟨n,by omega,hf⟩
  ·obtain⟨b,h1,h2⟩:=ih (fun h0=>h (by simp[Rf.cntTo,hf,h0]));exact⟨b,by omega,h2⟩
theorem Qz:∀(ps:List Pg.Pt),(∀p∈ps,0<=p.pl)->Pg.matchless ps=-1->∀p∈ps,p.kd=1->Rf.cntTo p.f 256≠0:=by
 intro ps
 induction ps with
 |nil=>intro _ _ p hp;cases hp
 |cons x ps ih=>
  intro hpl hm p hp h1 h0;rw[Pg.matchless]at hm;by_cases hc:x.kd=1/\Rf.cntTo x.f 256=0
  ·rw[if_pos hc]at hm;have:=hpl x (by simp);omega
  ·rw[if_neg hc]at hm;rcases List.mem_cons.1 hp with rfl|h
   ·exact hc ⟨h1,h0⟩
   ·exact ih (fun q hq=>hpl q (by simp[hq])) hm p h h1 h0
theorem La {s:ByteArray}{ps:List Pg.Pt}{qs:List Tq} (h3:X9 (QT s) ps qs):(∀p∈ps,p.kd=1->Rf.cntTo p.f 256≠0)->∀q∈qs,q.t.kd=1->∃b,b<256/\q.f b=true:=by
 induction h3 with
 |nil=>intro _ q hq;cases hq
 |@cons a b l m hx t ih=>
  intro hall q hq h1;rcases List.mem_cons.1 hq with h|hq
  ·rw[h]at h1 ⊢;obtain⟨c,b1,b2⟩:=GW 256 (hall a (by simp) (by rw[hx.1];exact h1));exact⟨c,b1,by rw[<-hx.2.2.1];exact b2⟩
  ·exact ih (fun p hp=>hall p (by simp[hp])) q hq h1
theorem Mx (s:ByteArray) (h:(Pg.wrong (Y5 s) s.size).1=0):(VM s).Full:=by
 have hok:=((Xf s).2 h);obtain⟨_,h40,hok⟩:=hok;obtain⟨qs,f,_,_,h3,h4⟩:=UG s hok;have hml:Pg.matchless (Pg.readParts (Y5 s) s.size).ps=-1:=by
  unfold Pg.wrong at h;rw[if_neg (by omega)]at h;simp only[hok,if_true]at h;by_cases h1:Pg.tooDeep (Pg.readParts (Y5 s) s.size).ps 0=-1
  ·rw[if_pos h1]at h;by_cases h2:Pg.falling (Pg.readParts (Y5 s) s.size).ps=-1
   ·rw[if_pos h2]at h;by_cases h3:Pg.matchless (Pg.readParts (Y5 s) s.size).ps=-1
    ·exact h3
    ·rw[if_neg h3]at h;cases h
   ·rw[if_neg h2]at h;cases h
  ·rw[if_neg h1]at h;cases h
 have hpl:∀p∈(Pg.readParts (Y5 s) s.size).ps,0<=p.pl:=by
  have hc:=SE s ((s.size:Int).toNat+1) 0 0 0 0 [] (by omega) (by omega) (by omega);have hR:Pg.partsFrom (Y5 s) s.size ((s.size:Int).toNat+1) 0 0 ((0:Nat):Int) []=Pg.readParts (Y5 s) s.size:=rfl;rw[hR]at hc;rcases hc with ⟨h1,_⟩|⟨ps,_,h2,_,_,_,_,h7⟩
  ·rw[h1]at hok;cases hok
  ·rw[h2,List.nil_append];exact fun p hp=>(h7 p hp).1
 have hall:=Qz _ hpl hml;exact IA f 2 qs _ h4 (La h3 hall)
end Go.Proofs.Ytoaaklhpmhjhkab
namespace Go.Proofs.Ytoaaklhpmhjhkab
namespace Pk
def ld (nx:Nat->Int) (n:Nat) (s:Int) (c:Nat):Int:=if s=-1 then -1 else nx (s.toNat*n+c)
theorem ld_none (nx:Nat->Int) (n c:Nat):ld nx n (-1) c=-1:=if_pos rfl
theorem ld_nat (nx:Nat->Int) (n s c:Nat):ld nx n (s:Int) c=nx (s*n+c):=by
 rw[ld,if_neg (by omega),Int.toNat_natCast]
def dif (nx:Nat->Int) (n:Nat) (s d:Int):Nat->List Nat
 |0=>[]
 |k+1=>if ld nx n s k=ld nx n d k then dif nx n s d k else dif nx n s d k++[k]
variable {n : Nat}{nx : Nat → Int}
theorem dif_mem {s d:Int}{c:Nat}:∀ {k:Nat},c∈dif nx n s d k<->c<k/\ld nx n s c≠ld nx n d c
 |0=>by simp[dif]
 |k+1=>by
  rw[dif];split
  ·rename_i h;rw[dif_mem];constructor
   ·rintro ⟨h1,h2⟩;exact⟨by omega,h2⟩
   ·rintro ⟨h1,h2⟩;refine⟨?_,h2⟩;by_cases e:c=k
    ·subst e;exact absurd h h2
    ·omega
  ·rename_i h;rw[List.mem_append,dif_mem,List.mem_singleton];constructor
   ·rintro (⟨h1,h2⟩|rfl)
    ·exact⟨by omega,h2⟩
    ·exact⟨by omega,h⟩
   ·rintro ⟨h1,h2⟩;by_cases e:c=k
    ·exact Or.inr e
    ·exact Or.inl ⟨by omega,h2⟩
theorem dif_len (nx:Nat->Int) (n:Nat) (s d:Int):∀k:Nat,(dif nx n s d k).length<=k
 |0=>by simp[dif]
 |k+1=>by
  rw[dif];have:=dif_len nx n s d k;split
  ·omega
  ·simp;omega
variable {k : Nat}
theorem dif_eq {s d:Int} (h:ld nx n s k=ld nx n d k):dif nx n s d (k+1)=dif nx n s d k:=by rw[dif,if_pos h]
theorem dif_ne {s d:Int} (h:¬ld nx n s k=ld nx n d k):dif nx n s d (k+1)=dif nx n s d k++[k]:=by rw[dif,if_neg h]
def near (nx:Nat->Int) (n s:Nat):Nat->Int × List Nat
 |0=>(-1,dif nx n s (-1) n)
 |d+1=>if (dif nx n s d n).length<(near nx n s d).2.length then ((d:Int),dif nx n s d n) else near nx n s d
variable {d s : Nat}
theorem near_lt (h:(dif nx n s d n).length<(near nx n s d).2.length):near nx n s (d+1)=((d:Int),dif nx n s d n):=by rw[near,if_pos h]
theorem near_ge (h:¬(dif nx n s d n).length<(near nx n s d).2.length):near nx n s (d+1)=near nx n s d:=by rw[near,if_neg h]
theorem near_own (nx:Nat->Int) (n s:Nat):∀d,(near nx n s d).2=dif nx n s (near nx n s d).1 n
 |0=>rfl
 |d+1=>by
  by_cases h:(dif nx n s d n).length<(near nx n s d).2.length
  ·rw[near_lt h]
  ·rw[near_ge h];exact near_own nx n s d
theorem near_def (nx:Nat->Int) (n s:Nat):∀d,-1<=(near nx n s d).1/\(near nx n s d).1<d
 |0=>by simp[near]
 |d+1=>by
  have:=near_def nx n s d;by_cases h:(dif nx n s d n).length<(near nx n s d).2.length
  ·rw[near_lt h];simp only;omega
  ·rw[near_ge h];omega
def df (nx:Nat->Int) (n s:Nat):Int:=(near nx n s s).1
def own (nx:Nat->Int) (n s:Nat):List Nat:=(near nx n s s).2
theorem df_bd (nx:Nat->Int) (n s:Nat):-1<=df nx n s/\df nx n s<s:=near_def nx n s s
theorem own_lt {c:Nat} (h:c∈own nx n s):c<n:=by
 unfold own at h;rw[near_own]at h;exact(dif_mem.1 h).1
def fr (ck:List Int) (b:Nat) (l:List Nat):Bool:=l.all fun c=>ck.getD (b+c) (-1)==-1
variable {ck : List Int}{b : Nat}
theorem fr_iff {l:List Nat}:fr ck b l=true<->∀c∈l,ck.getD (b+c) (-1)=-1:=by
 unfold fr;rw[List.all_eq_true];simp
theorem fr_len (ck:List Int) (l:List Nat):fr ck ck.length l=true:=by
 rw[fr_iff];intro c _;rw[List.getD_eq_getElem?_getD,List.getElem?_eq_none (by omega)];rfl
def lf (p:Nat->Bool):Nat->Nat->Nat
 |0,b=>b
 |u+1,b=>if p b then b else lf p u (b+1)
theorem lf_spec (p:Nat->Bool):∀(u b:Nat),p (b+u)=true->p (lf p u b)=true/\lf p u b<=b+u/\∀i,b<=i->i<lf p u b->p i=false
 |0,b,h=>⟨by simpa[lf]using h,by simp[lf],fun i h1 h2=>by simp only[lf]at h2;omega⟩
 |u+1,b,h=>by
  rw[lf];by_cases e:p b=true
  ·rw[if_pos e];exact⟨e,by omega,fun i h1 h2=>by omega⟩
  ·rw[if_neg e];obtain⟨h1,h2,h3⟩:=lf_spec p u (b+1) (by rw[show b+1+u=b+(u+1) by omega];exact h);refine⟨h1,by omega,fun i hi hl=>?_⟩;by_cases e2:i=b
   ·subst e2;simpa using e
   ·exact h3 i (by omega) hl
def bas (ck:List Int) (l:List Nat):Nat:=lf (fun b=>fr ck b l) ck.length 0
theorem bas_spec (ck:List Int) (l:List Nat):fr ck (bas ck l) l=true/\bas ck l<=ck.length/\∀i,i<bas ck l->fr ck i l=false:=by
 obtain⟨h1,h2,h3⟩:=lf_spec (fun b=>fr ck b l) ck.length 0 (by rw[Nat.zero_add];exact fr_len ck l);exact⟨h1,by rw[Nat.zero_add]at h2;exact h2,fun i hi=>h3 i (by omega) hi⟩
theorem bas_eq {l:List Nat} (h:fr ck b l=true) (h':∀i,i<b->fr ck i l=false):bas ck l=b:=by
 obtain⟨h1,_,h3⟩:=bas_spec ck l;rcases Nat.lt_trichotomy (bas ck l) b with h4|h4|h4
 ·rw[h' _ h4]at h1;cases h1
 ·exact h4
 ·rw[h3 _ h4]at h;cases h
def put (l:List Int) (k:Nat) (v:Int):List Int:=(l++List.replicate (k+1-l.length) (-1)).set k v
theorem put_len (l:List Int) (k:Nat) (v:Int):(put l k v).length=max l.length (k+1):=by
 unfold put;simp;omega
theorem put_at (l:List Int) (k:Nat) (v:Int) (i:Nat):(put l k v).getD i (-1)=if i=k then v else l.getD i (-1):=by
 unfold put;rw[List.getD_eq_getElem?_getD,List.getD_eq_getElem?_getD,List.getElem?_set];by_cases e:k=i
 ·subst e;rw[if_pos rfl,if_pos rfl,if_pos (by simp;omega)];rfl
 ·rw[if_neg e,if_neg (fun h=>e h.symm)];by_cases h:i<l.length
  ·rw[List.getElem?_append_left h]
  ·rw[List.getElem?_append_right (by omega),List.getElem?_eq_none (l:=l) (by omega),List.getElem?_replicate];split<;>rfl
def lay (nx:Nat->Int) (n s b:Nat):List Nat->List Int × List Int->List Int × List Int
 |[],p=>p
 |c::r,p=>lay nx n s b r (put p.1 (b+c) s,put p.2 (b+c) (ld nx n s c))
theorem lay_append (nx:Nat->Int) (n s b:Nat):∀(l r:List Nat) (p:List Int × List Int),lay nx n s b (l++r) p=lay nx n s b r (lay nx n s b l p)
 |[],_,_=>rfl
 |c::l,r,p=>by rw[List.cons_append,lay,lay_append nx n s b l,lay]
theorem lay_at (nx:Nat->Int) (n s b:Nat):∀(l:List Nat) (p:List Int × List Int) (i:Nat),
  ((∃c∈l,i=b+c/\(lay nx n s b l p).1.getD i (-1)=s/\(lay nx n s b l p).2.getD i (-1)=ld nx n s c)) \/
  ((∀c∈l,i≠b+c)/\(lay nx n s b l p).1.getD i (-1)=p.1.getD i (-1)/\(lay nx n s b l p).2.getD i (-1)=p.2.getD i (-1))
 |[],p,i=>Or.inr ⟨by simp,rfl,rfl⟩
 |c::r,p,i=>by
  rw[lay];rcases lay_at nx n s b r (put p.1 (b+c) s,put p.2 (b+c) (ld nx n s c)) i with ⟨c',h1,h2⟩|⟨h1,h2,h3⟩
  ·exact Or.inl ⟨c',List.mem_cons_of_mem _ h1,h2⟩
  ·rw[h2,h3,put_at,put_at];by_cases e:i=b+c
   ·left;exact⟨c,List.mem_cons_self,e,if_pos e,if_pos e⟩
   ·right;refine⟨fun c' hc'=>?_,if_neg e,if_neg e⟩;rcases List.mem_cons.1 hc' with rfl|h
    ·exact e
    ·exact h1 c' h
theorem lay_len (nx:Nat->Int) (n s b:Nat):∀(l:List Nat) (p:List Int × List Int),p.1.length=p.2.length->(∀c∈l,c<n) ->
  (lay nx n s b l p).1.length=(lay nx n s b l p).2.length/\p.1.length<=(lay nx n s b l p).1.length/\(lay nx n s b l p).1.length<=max p.1.length (b+n)
 |[],p,h,_=>⟨h,Nat.le_refl _,by rw[lay];omega⟩
 |c::r,p,h,hl=>by
  rw[lay];have hc:=hl c List.mem_cons_self;obtain⟨h1,h2,h3⟩:=lay_len nx n s b r (put p.1 (b+c) s,put p.2 (b+c) (ld nx n s c)) (by simp only[put_len,h]) (fun c' h'=>hl c' (List.mem_cons_of_mem _ h'));simp only[put_len]at h2 h3;exact⟨h1,by omega,by omega⟩
theorem lay_last (nx:Nat->Int) (n s b:Nat):∀(l:List Nat) (p:List Int × List Int),(p.1.length=0\/p.1.getD (p.1.length-1) (-1)≠-1) ->
  ((lay nx n s b l p).1.length=0\/(lay nx n s b l p).1.getD ((lay nx n s b l p).1.length-1) (-1)≠-1)
 |[],p,h=>h
 |c::r,p,h=>by
  rw[lay];refine lay_last nx n s b r _ (Or.inr ?_);simp only[put_len,put_at];by_cases e:max p.1.length (b+c+1)-1=b+c
  ·rw[if_pos e];omega
  ·rw[if_neg e];have:max p.1.length (b+c+1)=p.1.length:=by omega
   rw[this];rcases h with h|h
   ·omega
   ·exact h
structure St where
 ck:List Int
 nt:List Int
 bs:List Int
 df:List Int
def step (nx:Nat->Int) (n:Nat) (S:St) (s:Nat):St:=
 ⟨(lay nx n s (bas S.ck (own nx n s)) (own nx n s) (S.ck,S.nt)).1,(lay nx n s (bas S.ck (own nx n s)) (own nx n s) (S.ck,S.nt)).2,S.bs++[(bas S.ck (own nx n s):Int)],S.df++[df nx n s]⟩
def run (nx:Nat->Int) (n:Nat):Nat->St
 |0=>⟨[],[],[],[]⟩
 |k+1=>step nx n (run nx n k) k
structure Inv (nx:Nat->Int) (n k:Nat) (S:St):Prop where
 l1:S.ck.length=S.nt.length
 l2:S.ck.length<=k*n
 l3:S.bs.length=k
 l4:S.df.length=k
 b3:∀i,i<k->0<=S.bs.getD i 0/\S.bs.getD i 0<=S.ck.length
 b4:∀i,i<k->S.df.getD i 0=df nx n i
 cs:∀j,j<S.ck.length->(S.ck.getD j (-1)=-1/\S.nt.getD j (-1)=-1)\/∃i c:Nat,i<k/\c<n/\S.ck.getD j (-1)=i/\(j:Int)=S.bs.getD i 0+c/\S.nt.getD j (-1)=ld nx n i c
 on:∀i c,i<k->c∈own nx n i->S.ck.getD (S.bs.getD i 0+c).toNat (-1)=i
 la:S.ck.length=0\/S.ck.getD (S.ck.length-1) (-1)≠-1
theorem getD_left (l r:List Int) (i:Nat) (d:Int) (h:i<l.length):(l++r).getD i d=l.getD i d:=by
 rw[List.getD_eq_getElem?_getD,List.getD_eq_getElem?_getD,List.getElem?_append_left h]
theorem getD_last (l:List Int) (x d:Int):(l++[x]).getD l.length d=x:=by simp
theorem getD_out (l:List Int) (i:Nat) (d:Int) (h:l.length<=i):l.getD i d=d:=by
 rw[List.getD_eq_getElem?_getD,List.getElem?_eq_none h];rfl
theorem inv (nx:Nat->Int) (n:Nat):∀k,Inv nx n k (run nx n k)
 |0=>⟨rfl,by simp[run],rfl,rfl,fun i h=>by omega,fun i h=>by omega,fun j h=>by simp[run]at h,fun i c h=>by omega,Or.inl rfl⟩
 |k+1=>by
  have I:=inv nx n k;rw[run];generalize run nx n k=S at I;obtain⟨f1,f2,f3⟩:=bas_spec S.ck (own nx n k);unfold step;generalize hb:bas S.ck (own nx n k)=b at f1 f2 f3;have hl:=lay_len nx n k b (own nx n k) (S.ck,S.nt) I.l1 (fun c hc=>own_lt hc);have ha:=lay_at nx n k b (own nx n k) (S.ck,S.nt);have hz:=lay_last nx n k b (own nx n k) (S.ck,S.nt) I.la;generalize lay nx n k b (own nx n k) (S.ck,S.nt)=p at hl ha hz;obtain⟨g1,g2,g3⟩:=hl;simp only at g1 g2 g3 ha hz;have i2:=I.l2;have bsl:∀i,i<k->(S.bs++[(b:Int)]).getD i 0=S.bs.getD i 0:=fun i hi=>getD_left _ _ _ _ (by rw[I.l3];exact hi)
  have bsk:(S.bs++[(b:Int)]).getD k 0=b:=by have:=getD_last S.bs (b:Int) 0;rwa [I.l3]at this
  refine⟨g1,?_,by simp[I.l3],by simp[I.l4],fun i hi=>?_,fun i hi=>?_,fun j hj=>?_,fun i c hi hc=>?_,hz⟩
  ·simp only;rw[Nat.succ_mul];omega
  ·simp only;by_cases e:i=k
   ·subst e;rw[bsk];omega
   ·rw[bsl i (by omega)];have:=I.b3 i (by omega);omega
  ·simp only;by_cases e:i=k
   ·subst e;have:=getD_last S.df (df nx n i) 0;rwa [I.l4]at this
   ·rw[getD_left _ _ _ _ (by rw[I.l4];omega)];exact I.b4 i (by omega)
  ·simp only at hj ⊢;rcases ha j with ⟨c,h1,h2,h3,h4⟩|⟨h1,h2,h3⟩
   ·right;refine⟨k,c,by omega,own_lt h1,h3,?_,h4⟩;rw[bsk];omega
   ·by_cases hj2:j<S.ck.length
    ·rcases I.cs j hj2 with ⟨h4,h5⟩|⟨i,c,h4,h5,h6,h7,h8⟩
     ·left;exact⟨by rw[h2];exact h4,by rw[h3];exact h5⟩
     ·right;refine⟨i,c,by omega,h5,by rw[h2];exact h6,by rw[bsl i h4];exact h7,by rw[h3];exact h8⟩
    ·left;have:=I.l1;exact⟨by rw[h2,getD_out _ _ _ (by omega)],by rw[h3,getD_out _ _ _ (by omega)]⟩
  ·simp only;by_cases e:i=k
   ·subst e;rw[bsk];rw[show((b:Int)+(c:Int)).toNat=b+c by omega];rcases ha (b+c)with ⟨c',h1,h2,h3,h4⟩|⟨h1,_⟩
    ·exact h3
    ·exact absurd rfl (h1 c hc)
   ·rw[bsl i (by omega)];have ho:=I.on i c (by omega) hc;rcases ha (S.bs.getD i 0+c).toNat with ⟨c',h1,h2,h3,h4⟩|⟨h1,h2,_⟩
    ·have:=fr_iff.1 f1 c' h1;rw[<-h2,ho]at this;omega
    ·rw[h2];exact ho
end Pk
end Go.Proofs.Ytoaaklhpmhjhkab
