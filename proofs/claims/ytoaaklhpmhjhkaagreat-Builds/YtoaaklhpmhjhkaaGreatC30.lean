import Derived.Test.YtoaaklhpmhjhkaaGreatC24
set_option maxRecDepth 100000
set_option maxHeartbeats 4000000
set_option linter.all false
namespace Go.Proofs.YtoaaklhpmhjhkaaGreat
open Go.RowKit
namespace Rx
theorem nul_or_fst:∀(e:Rx) (o:Nat),e.nul=true\/∃p,e.fst o p=true
 |eps,_=>Or.inl rfl
 |lit _,o=>Or.inr ⟨o,by simp[fst]⟩
 |cat a b,o=>by
  rcases nul_or_fst a o with h|⟨p,h⟩
  ·rcases nul_or_fst b (o+a.sz)with k|⟨p,k⟩
   ·exact Or.inl (by simp[nul,h,k])
   exact Or.inr ⟨p,by simp[fst,h,k]⟩
  exact Or.inr ⟨p,by simp[fst,h]⟩
 |alt a b,o=>by
  rcases nul_or_fst a o with h|⟨p,h⟩
  ·exact Or.inl (by simp[nul,h])
  exact Or.inr ⟨p,by simp[fst,h]⟩
 |star _,_=>Or.inl rfl
 |plus a,o=>nul_or_fst a o
 |opt _,_=>Or.inl rfl
inductive Rch (e:Rx) (o:Nat):Nat->Prop
 |last {p:Nat} (h:e.lst o p=true):Rch e o p
 |next {p q:Nat} (h:e.fol o p q=true) (k:Rch e o q):Rch e o p
theorem rch_any:∀(e:Rx) (o p:Nat),o<=p->p<o+e.sz->Rch e o p
 |eps,o,p,h1,h2=>by simp[sz]at h2;omega
 |lit _,o,p,h1,h2=>.last (by simp[sz]at h2;simp[lst];omega)
 |cat a b,o,p,h1,h2=>by
  have c:∀q,Rch b (o+a.sz) q->Rch (cat a b) o q:=λq h=>by
   induction h with
   |last h=>exact .last (by simp[lst,h])
   |next h k ih=>exact .next (by simp[fol,h]) ih
  have ha:∀q,Rch a o q->Rch (cat a b) o q:=λq h=>by
   induction h with
   |last h=>
    rcases nul_or_fst b (o+a.sz)with k|⟨x,k⟩
    ·exact .last (by simp[lst,h,k])
    have d:=fst_rng b _ x k;exact .next (q:=x) (by simp[fol,h,k]) (c x (rch_any b _ x d.1 d.2))
   |next h k ih=>exact .next (by simp[fol,h]) ih
  simp only[sz]at h2;rcases Nat.lt_or_ge p (o+a.sz)with h|h
  ·exact ha p (rch_any a o p h1 h)
  exact c p (rch_any b _ p h (by omega))
 |alt a b,o,p,h1,h2=>by
  have c:∀q,Rch b (o+a.sz) q->Rch (alt a b) o q:=λq h=>by
   induction h with
   |last h=>exact .last (by simp[lst,h])
   |next h k ih=>exact .next (by simp[fol,h]) ih
  have ha:∀q,Rch a o q->Rch (alt a b) o q:=λq h=>by
   induction h with
   |last h=>exact .last (by simp[lst,h])
   |next h k ih=>exact .next (by simp[fol,h]) ih
  simp only[sz]at h2;rcases Nat.lt_or_ge p (o+a.sz)with h|h
  ·exact ha p (rch_any a o p h1 h)
  exact c p (rch_any b _ p h (by omega))
 |star a,o,p,h1,h2=>by
  have ha:∀q,Rch a o q->Rch (star a) o q:=λq h=>by
   induction h with
   |last h=>exact .last h
   |next h k ih=>exact .next (by simp[fol,h]) ih
  exact ha p (rch_any a o p h1 h2)
 |plus a,o,p,h1,h2=>by
  have ha:∀q,Rch a o q->Rch (plus a) o q:=λq h=>by
   induction h with
   |last h=>exact .last h
   |next h k ih=>exact .next (by simp[fol,h]) ih
  exact ha p (rch_any a o p h1 h2)
 |opt a,o,p,h1,h2=>by
  have ha:∀q,Rch a o q->Rch (opt a) o q:=λq h=>by
   induction h with
   |last h=>exact .last h
   |next h k ih=>exact .next h ih
  exact ha p (rch_any a o p h1 h2)
def Full:Rx->Prop
 |eps=>True
 |lit f=>∃b,b<256/\f b=true
 |cat a b=>a.Full/\b.Full
 |alt a b=>a.Full/\b.Full
 |star a=>a.Full
 |plus a=>a.Full
 |opt a=>a.Full
theorem full_has:∀(e:Rx) (o p:Nat),e.Full->o<=p->p<o+e.sz->∃b,b<256/\e.has o p b=true
 |eps,o,p,_,h1,h2=>by simp[sz]at h2;omega
 |lit f,o,p,hf,h1,h2=>by
  obtain⟨b,d,g⟩:=hf;have:p=o:=by simp[sz]at h2;omega
  exact⟨b,d,by simp[has,this,g]⟩
 |cat a b,o,p,hf,h1,h2=>by
  simp only[sz]at h2;rcases Nat.lt_or_ge p (o+a.sz)with h|h
  ·obtain⟨c,d,g⟩:=full_has a o p hf.1 h1 h;exact⟨c,d,by simp[has,g]⟩
  obtain⟨c,d,g⟩:=full_has b _ p hf.2 h (by omega);exact⟨c,d,by simp[has,g]⟩
 |alt a b,o,p,hf,h1,h2=>by
  simp only[sz]at h2;rcases Nat.lt_or_ge p (o+a.sz)with h|h
  ·obtain⟨c,d,g⟩:=full_has a o p hf.1 h1 h;exact⟨c,d,by simp[has,g]⟩
  obtain⟨c,d,g⟩:=full_has b _ p hf.2 h (by omega);exact⟨c,d,by simp[has,g]⟩
 |star a,o,p,hf,h1,h2=>full_has a o p hf h1 h2
 |plus a,o,p,hf,h1,h2=>full_has a o p hf h1 h2
 |opt a,o,p,hf,h1,h2=>full_has a o p hf h1 h2
variable {e : Rx}
theorem nz_full (h:e.Full):e.nz.Full:=by unfold nz;split<;>first|trivial|exact h
theorem row_full {l:List Rx} (h:∀x∈l,x.Full):(rowOf l).Full:=by
 have b:∀(l:List Rx) (a:Rx),a.Full->(∀x∈l,x.Full)->(l.foldl cat a).Full:=by
  intro l
  induction l with
  |nil=>intro a h _;exact h
  |cons x l ih=>intro a h k;exact ih _ ⟨h,k x (by simp)⟩ (λy c=>k y (by simp[c]))
 exact b l eps trivial h
variable {kd : Int}
theorem suf_full {le mo:Nat} (h:e.Full):(suf kd le mo e).Full:=by
 unfold suf
 repeat' split
 ·exact h
 ·exact h
 ·exact h
 refine row_full (λx a=>?_);obtain⟨i,_,rfl⟩:=List.mem_map.1 a;split<;>exact h
end Rx
theorem y2S:∀(f k:Nat) (ts:List Tq) (e:Rx),Pp f k ts e->(∀q∈ts,q.t.kd=1->∃b,b<256/\q.f b=true)->e.Full:=by
 intro f
 induction f with
 |zero=>intro k ts e h;exact absurd h (by simp[Pp])
 |succ f ih=>
  intro k ts e h d;rcases k with _|_|k
  ·unfold Pp at h;rcases h with ⟨q,rfl,g,i,rfl⟩|⟨a,inn,b,e0,rfl,g,i,j,l,o,rfl⟩|⟨q,t,e0,rfl,g,i,j,rfl⟩
   ·exact d q (by simp) i
   ·exact Rx.nz_full (ih 2 inn e0 o (λq c=>d q (by simp[c])))
   exact Rx.nz_full (Rx.suf_full (ih 0 q e0 g (λx c=>d x (by simp[c]))))
  ·unfold Pp at h;obtain⟨L,rfl,g,rfl⟩:=h;refine Rx.row_full (λx c=>?_);obtain⟨y,m,rfl⟩:=List.mem_map.1 c;refine ih 0 y.1 y.2 (g y m) (λq p=>d q ?_);exact List.mem_flatten.2 ⟨y.1,List.mem_map.2 ⟨y,m,rfl⟩,p⟩
  unfold Pp at h;rcases h with h|⟨r,b,q,n,e2,rfl,g,i,j,l,rfl⟩
  ·exact ih 1 ts e h d
  exact⟨ih 1 r n j (λx c=>d x (by simp[c])),ih 2 q e2 l (λx c=>d x (by simp[c]))⟩
theorem y3D {f:Nat->Bool}:∀n,Rf.cntTo f n≠0->∃b,b<n/\f b=true:=by
 intro n
 induction n with
 |zero=>intro h;exact absurd rfl h
 |succ n ih=>
  intro h;by_cases a:f n=true
  ·exact⟨n,by omega,a⟩
  obtain⟨b,e,d⟩:=ih (λc=>h (by simp[Rf.cntTo,a,c]));exact⟨b,by omega,d⟩
theorem q6m:∀(ps:List Pg.Pt),(∀p∈ps,0<=p.pl)->Pg.matchless ps=-1->∀p∈ps,p.kd=1->Rf.cntTo p.f 256≠0:=by
 intro ps
 induction ps with
 |nil=>intro _ _ p d;cases d
 |cons x ps ih=>
  intro a b p d g e;rw[Pg.matchless]at b;by_cases c:x.kd=1/\Rf.cntTo x.f 256=0
  ·rw[if_pos c]at b;have:=a x (by simp);omega
  rw[if_neg c]at b;rcases List.mem_cons.1 d with rfl|h
  ·exact c ⟨g,e⟩
  exact ih (λq i=>a q (by simp[i])) b p h g e
theorem y0S {s:ByteArray}{ps:List Pg.Pt}{qs:List Tq} (h3:Both (SameP s) ps qs):(∀p∈ps,p.kd=1->Rf.cntTo p.f 256≠0)->∀q∈qs,q.t.kd=1->∃b,b<256/\q.f b=true:=by
 induction h3 with
 |nil=>intro _ q e;cases e
 |@cons a b l m hx t ih=>
  intro d q e g;rcases List.mem_cons.1 e with h|e
  ·rw[h]at g ⊢;obtain⟨c,i,j⟩:=y3D 256 (d a (by simp) (by rw[hx.1];exact g));exact⟨c,i,by rw[<-hx.2.2.1];exact j⟩
  exact ih (λp k=>d p (by simp[k])) q e g
theorem q7H (s:ByteArray) (h:(Pg.wrong (bat s) s.size).1=0):(rxOf s).Full:=by
 have a:=((q0N s).2 h);obtain⟨_,l,a⟩:=a;obtain⟨q,f,_,_,e,k⟩:=q3g s a;have g:Pg.matchless (Pg.readParts (bat s) s.size).ps=-1:=by
  unfold Pg.wrong at h;rw[if_neg (by omega)]at h;simp only[a,if_true]at h;by_cases c:Pg.tooDeep (Pg.readParts (bat s) s.size).ps 0=-1
  ·rw[if_pos c]at h;by_cases d:Pg.falling (Pg.readParts (bat s) s.size).ps=-1
   ·rw[if_pos d]at h;by_cases e:Pg.matchless (Pg.readParts (bat s) s.size).ps=-1
    ·exact e
    rw[if_neg e]at h;cases h
   rw[if_neg d]at h;cases h
  rw[if_neg c]at h;cases h
 have i:∀p∈(Pg.readParts (bat s) s.size).ps,0<=p.pl:=by
  have j:=q4A s ((s.size:Int).toNat+1) 0 0 0 0 [] (by omega) (by omega) (by omega);have n:Pg.partsFrom (bat s) s.size ((s.size:Int).toNat+1) 0 0 ((0:Nat):Int) []=Pg.readParts (bat s) s.size:=rfl;rw[n]at j;rcases j with ⟨c,_⟩|⟨ps,_,d,_,_,_,_,m⟩
  ·rw[c]at a;cases a
  rw[d,List.nil_append];exact λp o=>(m p o).1
 have b:=q6m _ i g;exact y2S f 2 q _ k (y0S e b)
end Go.Proofs.YtoaaklhpmhjhkaaGreat
