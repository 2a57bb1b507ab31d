import Derived.Test.YtoaaklhpmhjhkaaGreatC26
set_option maxRecDepth 100000
set_option maxHeartbeats 4000000
set_option linter.all false
namespace Go.Proofs.YtoaaklhpmhjhkaaGreat
open Go.RowKit
namespace Rx
theorem nul_or_fst:∀(e:Rx) (o:Nat),e.nul=true\/∃p,e.fst o p=true
 |eps,_=>Or.inl rfl
 |lit _,o=>Or.inr ⟨o,by simp[fst]⟩
 |cat a b,o=>by
  rcases nul_or_fst a o with h|⟨p,h⟩
  ·rcases nul_or_fst b (o+a.sz)with k|⟨p,k⟩
   ·exact Or.inl (by simp[nul,h,k])
   ·exact Or.inr ⟨p,by simp[fst,h,k]⟩
  ·exact Or.inr ⟨p,by simp[fst,h]⟩
 |alt a b,o=>by
  rcases nul_or_fst a o with h|⟨p,h⟩
  ·exact Or.inl (by simp[nul,h])
  ·exact Or.inr ⟨p,by simp[fst,h]⟩
 |star _,_=>Or.inl rfl
 |plus a,o=>nul_or_fst a o
 |opt _,_=>Or.inl rfl
inductive Rch (e:Rx) (o:Nat):Nat->Prop
 |last {p:Nat} (h:e.lst o p=true):Rch e o p
 |next {p q:Nat} (h:e.fol o p q=true) (k:Rch e o q):Rch e o p
theorem rch_any:∀(e:Rx) (o p:Nat),o<=p->p<o+e.sz->Rch e o p
 |eps,o,p,h1,h2=>by simp[sz]at h2;omega
 |lit _,o,p,h1,h2=>.last (by simp[sz]at h2;simp[lst];omega)
 |cat a b,o,p,h1,h2=>by
  have hb:∀q,Rch b (o+a.sz) q->Rch (cat a b) o q:=fun q h=>by
   induction h with
   |last h=>exact .last (by simp[lst,h])
   |next h k ih=>exact .next (by simp[fol,h]) ih
  have ha:∀q,Rch a o q->Rch (cat a b) o q:=fun q h=>by
   induction h with
   |last h=>
    rcases nul_or_fst b (o+a.sz)with k|⟨x,k⟩
    ·exact .last (by simp[lst,h,k])
    ·have hx:=fst_rng b _ x k;exact .next (q:=x) (by simp[fol,h,k]) (hb x (rch_any b _ x hx.1 hx.2))
   |next h k ih=>exact .next (by simp[fol,h]) ih
  simp only[sz]at h2;rcases Nat.lt_or_ge p (o+a.sz)with h|h
  ·exact ha p (rch_any a o p h1 h)
  ·exact hb p (rch_any b _ p h (by omega))
 |alt a b,o,p,h1,h2=>by
  have hb:∀q,Rch b (o+a.sz) q->Rch (alt a b) o q:=fun q h=>by
   induction h with
   |last h=>exact .last (by simp[lst,h])
   |next h k ih=>exact .next (by simp[fol,h]) ih
  have ha:∀q,Rch a o q->Rch (alt a b) o q:=fun q h=>by
   induction h with
   |last h=>exact .last (by simp[lst,h])
   |next h k ih=>exact .next (by simp[fol,h]) ih
  simp only[sz]at h2;rcases Nat.lt_or_ge p (o+a.sz)with h|h
  ·exact ha p (rch_any a o p h1 h)
  ·exact hb p (rch_any b _ p h (by omega))
 |star a,o,p,h1,h2=>by
  have ha:∀q,Rch a o q->Rch (star a) o q:=fun q h=>by
   induction h with
   |last h=>exact .last h
   |next h k ih=>exact .next (by simp[fol,h]) ih
  exact ha p (rch_any a o p h1 h2)
 |plus a,o,p,h1,h2=>by
  have ha:∀q,Rch a o q->Rch (plus a) o q:=fun q h=>by
   induction h with
   |last h=>exact .last h
   |next h k ih=>exact .next (by simp[fol,h]) ih
  exact ha p (rch_any a o p h1 h2)
 |opt a,o,p,h1,h2=>by
  have ha:∀q,Rch a o q->Rch (opt a) o q:=fun q h=>by
   induction h with
   |last h=>exact .last h
   |next h k ih=>exact .next h ih
  exact ha p (rch_any a o p h1 h2)
def Full:Rx->Prop
 |eps=>True
 |lit f=>∃b,b<256/\f b=true
 |cat a b=>a.Full/\b.Full
 |alt a b=>a.Full/\b.Full
 |star a=>a.Full
 |plus a=>a.Full
 |opt a=>a.Full
theorem full_has:∀(e:Rx) (o p:Nat),e.Full->o<=p->p<o+e.sz->∃b,b<256/\e.has o p b=true
 |eps,o,p,_,h1,h2=>by simp[sz]at h2;omega
 |lit f,o,p,hf,h1,h2=>by
  obtain⟨b,h3,h4⟩:=hf;have:p=o:=by simp[sz]at h2;omega
  exact⟨b,h3,by simp[has,this,h4]⟩
 |cat a b,o,p,hf,h1,h2=>by
  simp only[sz]at h2;rcases Nat.lt_or_ge p (o+a.sz)with h|h
  ·obtain⟨c,h3,h4⟩:=full_has a o p hf.1 h1 h;exact⟨c,h3,by simp[has,h4]⟩
  ·obtain⟨c,h3,h4⟩:=full_has b _ p hf.2 h (by omega);exact⟨c,h3,by simp[has,h4]⟩
 |alt a b,o,p,hf,h1,h2=>by
  simp only[sz]at h2;rcases Nat.lt_or_ge p (o+a.sz)with h|h
  ·obtain⟨c,h3,h4⟩:=full_has a o p hf.1 h1 h;exact⟨c,h3,by simp[has,h4]⟩
  ·obtain⟨c,h3,h4⟩:=full_has b _ p hf.2 h (by omega);exact⟨c,h3,by simp[has,h4]⟩
 |star a,o,p,hf,h1,h2=>full_has a o p hf h1 h2
 |plus a,o,p,hf,h1,h2=>full_has a o p hf h1 h2
 |opt a,o,p,hf,h1,h2=>full_has a o p hf h1 h2
variable {e : Rx}
theorem nz_full (h:e.Full):e.nz.Full:=by unfold nz;split<;>first|trivial|exact h
theorem row_full {l:List Rx} (h:∀x∈l,x.Full):(rowOf l).Full:=by
 have key:∀(l:List Rx) (a:Rx),a.Full->(∀x∈l,x.Full)->(l.foldl cat a).Full:=by
  intro l
  induction l with
  |nil=>intro a h _;exact h
  |cons x l ih=>intro a h k;exact ih _ ⟨h,k x (by simp)⟩ (fun y hy=>k y (by simp[hy]))
 exact key l eps trivial h
variable {kd : Int}
theorem suf_full {le mo:Nat} (h:e.Full):(suf kd le mo e).Full:=by
 unfold suf
 repeat' split
 ·exact h
 ·exact h
 ·exact h
 ·refine row_full (fun x hx=>?_);obtain⟨i,_,rfl⟩:=List.mem_map.1 hx;split<;>exact h
end Rx
theorem y2S:∀(f k:Nat) (ts:List Tq) (e:Rx),Pp f k ts e->(∀q∈ts,q.t.kd=1->∃b,b<256/\q.f b=true)->e.Full:=by
 intro f
 induction f with
 |zero=>intro k ts e h;exact absurd h (by simp[Pp])
 |succ f ih=>
  intro k ts e h hq;rcases k with _|_|k
  ·unfold Pp at h;rcases h with ⟨q,rfl,h2,h3,rfl⟩|⟨a,inn,b,e0,rfl,h2,h3,h4,h5,h6,rfl⟩|⟨q,t,e0,rfl,h2,h3,h4,rfl⟩
   ·exact hq q (by simp) h3
   ·exact Rx.nz_full (ih 2 inn e0 h6 (fun q hx=>hq q (by simp[hx])))
   ·exact Rx.nz_full (Rx.suf_full (ih 0 q e0 h2 (fun x hx=>hq x (by simp[hx]))))
  ·unfold Pp at h;obtain⟨L,rfl,h2,rfl⟩:=h;refine Rx.row_full (fun x hx=>?_);obtain⟨y,hy,rfl⟩:=List.mem_map.1 hx;refine ih 0 y.1 y.2 (h2 y hy) (fun q hz=>hq q ?_);exact List.mem_flatten.2 ⟨y.1,List.mem_map.2 ⟨y,hy,rfl⟩,hz⟩
  ·unfold Pp at h;rcases h with h|⟨r,b,q,e1,e2,rfl,h2,h3,h4,h5,rfl⟩
   ·exact ih 1 ts e h hq
   ·exact⟨ih 1 r e1 h4 (fun x hx=>hq x (by simp[hx])),ih 2 q e2 h5 (fun x hx=>hq x (by simp[hx]))⟩
theorem y3D {f:Nat->Bool}:∀n,Rf.cntTo f n≠0->∃b,b<n/\f b=true:=by
 intro n
 induction n with
 |zero=>intro h;exact absurd rfl h
 |succ n ih=>
  intro h;by_cases hf:f n=true
  ·exact⟨n,by omega,hf⟩
  ·obtain⟨b,h1,h2⟩:=ih (fun h0=>h (by simp[Rf.cntTo,hf,h0]));exact⟨b,by omega,h2⟩
theorem q6m:∀(ps:List Pg.Pt),(∀p∈ps,0<=p.pl)->Pg.matchless ps=-1->∀p∈ps,p.kd=1->Rf.cntTo p.f 256≠0:=by
 intro ps
 induction ps with
 |nil=>intro _ _ p hp;cases hp
 |cons x ps ih=>
  intro hpl hm p hp h1 h0;rw[Pg.matchless]at hm;by_cases hc:x.kd=1/\Rf.cntTo x.f 256=0
  ·rw[if_pos hc]at hm;have:=hpl x (by simp);omega
  ·rw[if_neg hc]at hm;rcases List.mem_cons.1 hp with rfl|h
   ·exact hc ⟨h1,h0⟩
   ·exact ih (fun q hq=>hpl q (by simp[hq])) hm p h h1 h0
theorem y0S {s:ByteArray}{ps:List Pg.Pt}{qs:List Tq} (h3:Both (SameP s) ps qs):(∀p∈ps,p.kd=1->Rf.cntTo p.f 256≠0)->∀q∈qs,q.t.kd=1->∃b,b<256/\q.f b=true:=by
 induction h3 with
 |nil=>intro _ q hq;cases hq
 |@cons a b l m hx t ih=>
  intro hall q hq h1;rcases List.mem_cons.1 hq with h|hq
  ·rw[h]at h1 ⊢;obtain⟨c,b1,b2⟩:=y3D 256 (hall a (by simp) (by rw[hx.1];exact h1));exact⟨c,b1,by rw[<-hx.2.2.1];exact b2⟩
  ·exact ih (fun p hp=>hall p (by simp[hp])) q hq h1
theorem q7H (s:ByteArray) (h:(Pg.wrong (bat s) s.size).1=0):(rxOf s).Full:=by
 have hok:=((q0N s).2 h);obtain⟨_,h40,hok⟩:=hok;obtain⟨qs,f,_,_,h3,h4⟩:=q3g s hok;have hml:Pg.matchless (Pg.readParts (bat s) s.size).ps=-1:=by
  unfold Pg.wrong at h;rw[if_neg (by omega)]at h;simp only[hok,if_true]at h;by_cases h1:Pg.tooDeep (Pg.readParts (bat s) s.size).ps 0=-1
  ·rw[if_pos h1]at h;by_cases h2:Pg.falling (Pg.readParts (bat s) s.size).ps=-1
   ·rw[if_pos h2]at h;by_cases h3:Pg.matchless (Pg.readParts (bat s) s.size).ps=-1
    ·exact h3
    ·rw[if_neg h3]at h;cases h
   ·rw[if_neg h2]at h;cases h
  ·rw[if_neg h1]at h;cases h
 have hpl:∀p∈(Pg.readParts (bat s) s.size).ps,0<=p.pl:=by
  have hc:=q4A s ((s.size:Int).toNat+1) 0 0 0 0 [] (by omega) (by omega) (by omega);have hR:Pg.partsFrom (bat s) s.size ((s.size:Int).toNat+1) 0 0 ((0:Nat):Int) []=Pg.readParts (bat s) s.size:=rfl;rw[hR]at hc;rcases hc with ⟨h1,_⟩|⟨ps,_,h2,_,_,_,_,h7⟩
  ·rw[h1]at hok;cases hok
  ·rw[h2,List.nil_append];exact fun p hp=>(h7 p hp).1
 have hall:=q6m _ hpl hml;exact y2S f 2 qs _ h4 (y0S h3 hall)
end Go.Proofs.YtoaaklhpmhjhkaaGreat
