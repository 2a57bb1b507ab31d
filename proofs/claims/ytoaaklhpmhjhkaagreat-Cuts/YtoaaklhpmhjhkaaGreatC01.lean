import Derived.WalkKit
import Derived.Test.YtoaaklhpmhjhkaaGreatSk
set_option maxRecDepth 100000
set_option maxHeartbeats 4000000
set_option linter.all false
namespace Go.Proofs.YtoaaklhpmhjhkaaGreat
section
inductive Rx where
 |eps
 |lit (f:Nat->Bool)
 |cat (a b:Rx)
 |alt (a b:Rx)
 |star (a:Rx)
 |plus (a:Rx)
 |opt (a:Rx)
namespace Rx
def sz:Rx->Nat
 |eps=>0
 |lit _=>1
 |cat a b=>a.sz+b.sz
 |alt a b=>a.sz+b.sz
 |star a=>a.sz
 |plus a=>a.sz
 |opt a=>a.sz
def nul:Rx->Bool
 |eps=>true
 |lit _=>false
 |cat a b=>a.nul&&b.nul
 |alt a b=>a.nul || b.nul
 |star _=>true
 |plus a=>a.nul
 |opt _=>true
def fst:Rx->Nat->Nat->Bool
 |eps,_,_=>false
 |lit _,o,p=>p==o
 |cat a b,o,p=>a.fst o p || (a.nul&&b.fst (o+a.sz) p)
 |alt a b,o,p=>a.fst o p || b.fst (o+a.sz) p
 |star a,o,p=>a.fst o p
 |plus a,o,p=>a.fst o p
 |opt a,o,p=>a.fst o p
def lst:Rx->Nat->Nat->Bool
 |eps,_,_=>false
 |lit _,o,p=>p==o
 |cat a b,o,p=>b.lst (o+a.sz) p || (b.nul&&a.lst o p)
 |alt a b,o,p=>a.lst o p || b.lst (o+a.sz) p
 |star a,o,p=>a.lst o p
 |plus a,o,p=>a.lst o p
 |opt a,o,p=>a.lst o p
def fol:Rx->Nat->Nat->Nat->Bool
 |eps,_,_,_=>false
 |lit _,_,_,_=>false
 |cat a b,o,p,q=>a.fol o p q || b.fol (o+a.sz) p q || (a.lst o p&&b.fst (o+a.sz) q)
 |alt a b,o,p,q=>a.fol o p q || b.fol (o+a.sz) p q
 |star a,o,p,q=>a.fol o p q || (a.lst o p&&a.fst o q)
 |plus a,o,p,q=>a.fol o p q || (a.lst o p&&a.fst o q)
 |opt a,o,p,q=>a.fol o p q
def has:Rx->Nat->Nat->Nat->Bool
 |eps,_,_,_=>false
 |lit f,o,p,b=>p==o&&f b
 |cat a b,o,p,c=>a.has o p c || b.has (o+a.sz) p c
 |alt a b,o,p,c=>a.has o p c || b.has (o+a.sz) p c
 |star a,o,p,c=>a.has o p c
 |plus a,o,p,c=>a.has o p c
 |opt a,o,p,c=>a.has o p c
def fst_rng:∀(e:Rx) (o p:Nat),e.fst o p=true->o<=p/\p<o+e.sz
 |eps,o,p,h=>by simp[fst]at h
 |lit _,o,p,h=>by simp[fst]at h;subst h;simp[sz]
 |cat a b,o,p,h=>by
  simp only[fst,dp,ZS]at h;rcases h with h|⟨_,h⟩
  .have:=fst_rng a o p h;simp only[sz];omega
  have:=fst_rng b _ p h;simp only[sz];omega
 |alt a b,o,p,h=>by
  simp only[fst,dp]at h;rcases h with h|h
  .have:=fst_rng a o p h;simp only[sz];omega
  have:=fst_rng b _ p h;simp only[sz];omega
 |star a,o,p,h=>fst_rng a o p h
 |plus a,o,p,h=>fst_rng a o p h
 |opt a,o,p,h=>fst_rng a o p h
def lst_rng:∀(e:Rx) (o p:Nat),e.lst o p=true->o<=p/\p<o+e.sz
 |eps,o,p,h=>by simp[lst]at h
 |lit _,o,p,h=>by simp[lst]at h;subst h;simp[sz]
 |cat a b,o,p,h=>by
  simp only[lst,dp,ZS]at h;rcases h with h|⟨_,h⟩
  .have:=lst_rng b _ p h;simp only[sz];omega
  have:=lst_rng a _ p h;simp only[sz];omega
 |alt a b,o,p,h=>by
  simp only[lst,dp]at h;rcases h with h|h
  .have:=lst_rng a o p h;simp only[sz];omega
  have:=lst_rng b _ p h;simp only[sz];omega
 |star a,o,p,h=>lst_rng a o p h
 |plus a,o,p,h=>lst_rng a o p h
 |opt a,o,p,h=>lst_rng a o p h
def fol_rng:∀(e:Rx) (o p q:Nat),e.fol o p q=true->o<=p/\p<o+e.sz/\o<=q/\q<o+e.sz
 |eps,o,p,q,h=>by simp[fol]at h
 |lit _,o,p,q,h=>by simp[fol]at h
 |cat a b,o,p,q,h=>by
  simp only[fol,dp,ZS]at h;rcases h with (h|h)|⟨h,c⟩
  .have:=fol_rng a o p q h;simp only[sz];omega
  .have:=fol_rng b _ p q h;simp only[sz];omega
  have:=lst_rng a _ p h;have:=fst_rng b _ q c;simp only[sz];omega
 |alt a b,o,p,q,h=>by
  simp only[fol,dp]at h;rcases h with h|h
  .have:=fol_rng a o p q h;simp only[sz];omega
  have:=fol_rng b _ p q h;simp only[sz];omega
 |star a,o,p,q,h=>by
  simp only[fol,dp,ZS]at h;rcases h with h|⟨h,c⟩
  .exact fol_rng a o p q h
  have:=lst_rng a _ p h;have:=fst_rng a _ q c;simp only[sz];omega
 |plus a,o,p,q,h=>by
  simp only[fol,dp,ZS]at h;rcases h with h|⟨h,c⟩
  .exact fol_rng a o p q h
  have:=lst_rng a _ p h;have:=fst_rng a _ q c;simp only[sz];omega
 |opt a,o,p,q,h=>fol_rng a o p q h
def has_rng:∀(e:Rx) (o p b:Nat),e.has o p b=true->o<=p/\p<o+e.sz
 |eps,o,p,_,h=>by simp[has]at h
 |lit _,o,p,_,h=>by simp only[has,ZS,dq]at h;simp[sz];omega
 |cat a b,o,p,c,h=>by
  simp only[has,dp]at h;rcases h with h|h
  .have:=has_rng a o p c h;simp only[sz];omega
  have:=has_rng b _ p c h;simp only[sz];omega
 |alt a b,o,p,c,h=>by
  simp only[has,dp]at h;rcases h with h|h
  .have:=has_rng a o p c h;simp only[sz];omega
  have:=has_rng b _ p c h;simp only[sz];omega
 |star a,o,p,c,h=>has_rng a o p c h
 |plus a,o,p,c,h=>has_rng a o p c h
 |opt a,o,p,c,h=>has_rng a o p c h
variable {p:Nat}{e:Rx}
def fst_lt{o:Nat}(h:p<o\/o+e.sz<=p):e.fst o p=false:=by
 cases hf:e.fst o p
 .rfl
 have:=fst_rng e o p hf;omega
def lst_lt{o:Nat}(h:p<o\/o+e.sz<=p):e.lst o p=false:=by
 cases hf:e.lst o p
 .rfl
 have:=lst_rng e o p hf;omega
variable {q:Nat}
def fol_lt{o:Nat}(h:p<o\/o+e.sz<=p\/q<o\/o+e.sz<=q):e.fol o p q=false:=by
 cases hf:e.fol o p q
 .rfl
 have:=fol_rng e o p q hf;omega
variable {b:Nat}
def has_lt{o:Nat}(h:p<o\/o+e.sz<=p):e.has o p b=false:=by
 cases hf:e.has o p b
 .rfl
 have:=has_rng e o p b hf;omega
def nz(e:Rx):Rx:=if e.sz=0 then eps else e
def nz_sz(e:Rx):e.nz.sz=e.sz:=by
 unfold nz;split
 .rename_i h;rw[h];rfl
 rfl
def rowOf(l:List Rx):Rx:=l.foldl cat eps
def copies(e:Rx)(m n:Nat):List Rx:=(List.range n).map λi=>if i<m then e else opt e
def suf(kd:Int)(le mo:Nat)(e:Rx):Rx:=
 if kd=5 then star e else if kd=6 then plus e else if kd=7 then opt e else rowOf (copies e le mo)
def foldl_sz(l:List Rx):∀a:Rx,(l.foldl cat a).sz=a.sz+(l.map sz).sum:=by
 induction l with
 |nil=>intro a;simp
 |cons x l ih=>intro a;simp only[dr,ih,sz,dt,List.sum_cons];omega
def rowOf_sz(l:List Rx):(rowOf l).sz=(l.map sz).sum:=by unfold rowOf;rw[foldl_sz];simp[sz]
def rowOf_snoc(l:List Rx)(x:Rx):rowOf (l++[x])=cat (rowOf l) x:=by simp[rowOf]
def copies_sz(e:Rx)(m n:Nat):(rowOf (copies e m n)).sz=n*e.sz:=by
 induction n with
 |zero=>simp[copies,rowOf,sz]
 |succ n ih=>
  have:copies e m (n+1)=copies e m n++[if n<m then e else opt e]:=by simp[copies,ZT]
  rw[this,rowOf_snoc,sz,ih,du];split<;>rfl
def copies_succ(e:Rx)(m n:Nat):copies e m (n+1)=copies e m n++[if n<m then e else opt e]:=by simp[copies,ZT]
end Rx
open Go.RowKit
inductive St (L:List Nat->Prop):List Nat->Prop
 |nil:St L []
 |cons {u v:List Nat} (h:L u) (k:St L v):St L (u++v)
def Cc(L M:List Nat->Prop)(w:List Nat):Prop:=∃u v,w=u++v/\L u/\M v
def St.split{L:List Nat->Prop}{w:List Nat}(h:St L w)(z:w≠[]):∃c x y,w=c::(x++y)/\L (c::x)/\St L y:=by
 induction h with
 |nil=>exact absurd rfl z
 |@cons u v h k ih=>
  cases u with
  |nil=>exact ih (by simpa using z)
  |cons c x=>exact⟨c,x,v,Qs,h,k⟩
def St.one{L:List Nat->Prop}{u:List Nat}(h:L u):St L u:=by
 have:=St.cons h St.nil
 rwa [dv]at this
namespace Rx
def Lg:Rx->List Nat->Prop
 |eps=>λw=>w=[]
 |lit f=>λw=>∃b,w=[b]/\f b=true
 |cat a b=>Cc a.Lg b.Lg
 |alt a b=>λw=>a.Lg w\/b.Lg w
 |star a=>St a.Lg
 |plus a=>Cc a.Lg (St a.Lg)
 |opt a=>λw=>w=[]\/a.Lg w
def Acc(e:Rx)(o:Nat):Nat->List Nat->Prop
 |p,[]=>e.lst o p=true
 |p,b::w=>∃q,e.fol o p q=true/\e.has o q b=true/\Acc e o q w
def Mt(e:Rx)(o:Nat):List Nat->Prop
 |[]=>e.nul=true
 |b::w=>∃q,e.fst o q=true/\e.has o q b=true/\Acc e o q w
def acc_alt_l(a b:Rx)(o:Nat):∀(w:List Nat) (p:Nat),o<=p->p<o+a.sz->(Acc (alt a b) o p w<->Acc a o p w)
 |[],p,h1,h2=>by
  have:b.lst (o+a.sz) p=false:=lst_lt Qo;simp[Acc,lst,this]
 |c::w,p,h1,h2=>by
  simp only[Acc];constructor
  .rintro ⟨q,d,f,ha⟩;have g:b.fol (o+a.sz) p q=false:=fol_lt Qo;simp only[fol,g,dw]at d;have e:=fol_rng a o p q d;have e2:b.has (o+a.sz) q c=false:=has_lt Qo;simp only[has,e2,dw]at f;exact⟨q,d,f,(acc_alt_l a b o w q e.2.2.1 e.2.2.2).1 ha⟩
  rintro ⟨q,d,f,ha⟩;have e:=fol_rng a o p q d;exact⟨q,by simp[fol,d],by simp[has,f],(acc_alt_l a b o w q e.2.2.1 e.2.2.2).2 ha⟩
def acc_alt_r(a b:Rx)(o:Nat):∀(w:List Nat) (p:Nat),o+a.sz<=p->(Acc (alt a b) o p w<->Acc b (o+a.sz) p w)
 |[],p,h1=>by
  have:a.lst o p=false:=lst_lt Qo;simp[Acc,lst,this]
 |c::w,p,h1=>by
  simp only[Acc];constructor
  .rintro ⟨q,d,e,ha⟩;have g:a.fol o p q=false:=fol_lt Qo;simp only[fol,g,dx]at d;have f:=fol_rng b (o+a.sz) p q d;have e2:a.has o q c=false:=has_lt Qo;simp only[has,e2,dx]at e;exact⟨q,d,e,(acc_alt_r a b o w q f.2.2.1).1 ha⟩
  rintro ⟨q,d,e,ha⟩;have f:=fol_rng b (o+a.sz) p q d;exact⟨q,by simp[fol,d],by simp[has,e],(acc_alt_r a b o w q f.2.2.1).2 ha⟩
def acc_cat_r(a b:Rx)(o:Nat):∀(w:List Nat) (p:Nat),o+a.sz<=p->(Acc (cat a b) o p w<->Acc b (o+a.sz) p w)
 |[],p,h1=>by
  have:a.lst o p=false:=lst_lt Qo;simp[Acc,lst,this]
 |c::w,p,h1=>by
  simp only[Acc];constructor
  .rintro ⟨q,d,e,ha⟩;have g:a.fol o p q=false:=fol_lt Qo;have h:a.lst o p=false:=lst_lt Qo;simp only[fol,g,h,dx,dy,dw]at d;have f:=fol_rng b (o+a.sz) p q d;have e2:a.has o q c=false:=has_lt Qo;simp only[has,e2,dx]at e;exact⟨q,d,e,(acc_cat_r a b o w q f.2.2.1).1 ha⟩
  rintro ⟨q,d,e,ha⟩;have f:=fol_rng b (o+a.sz) p q d;exact⟨q,by simp[fol,d],by simp[has,e],(acc_cat_r a b o w q f.2.2.1).2 ha⟩
def acc_cat_l(a b:Rx)(o:Nat):∀(w:List Nat) (p:Nat),o<=p->p<o+a.sz->(Acc (cat a b) o p w<->∃u v,w=u++v/\Acc a o p u/\Mt b (o+a.sz) v)
 |[],p,h1,h2=>by
  have:b.lst (o+a.sz) p=false:=lst_lt Qo;simp only[Acc,lst,this,dx,ZS];constructor
  .rintro ⟨h,k⟩;exact⟨[],[],rfl,k,h⟩
  rintro ⟨u,v,e,i,j⟩;obtain⟨rfl,rfl⟩:=List.append_eq_nil_iff.1 e.symm;exact⟨j,i⟩
 |c::w,p,h1,h2=>by
  constructor
  .rintro ⟨q,g,f,ha⟩;have n:b.fol (o+a.sz) p q=false:=fol_lt Qo;simp only[fol,n,dw,dp,ZS]at g;rcases g with g|⟨m,l⟩
   .have d:=fol_rng a o p q g;have e2:b.has (o+a.sz) q c=false:=has_lt Qo;simp only[has,e2,dw]at f;let⟨u,v,e,i,j⟩:=(acc_cat_l a b o w q d.2.2.1 d.2.2.2).1 ha;exact⟨c::u,v,by simp[e],⟨q,g,f,i⟩,j⟩
   have d:=fst_rng b (o+a.sz) q l;have e2:a.has o q c=false:=has_lt Qo;simp only[has,e2,dx]at f;exact⟨[],c::w,rfl,m,⟨q,l,f,(acc_cat_r a b o w q d.1).1 ha⟩⟩
  rintro ⟨u,v,e,i,j⟩;cases u with
  |nil=>
   rw[dz]at e;subst e;let⟨q,l,f,ha⟩:=j;have d:=fst_rng b (o+a.sz) q l;have m:a.lst o p=true:=i;exact⟨q,by simp[fol,m,l],by simp[has,f],(acc_cat_r a b o w q d.1).2 ha⟩
  |cons c' u=>
   rw[Zt]at e;cases e;let⟨q,g,f,ha⟩:=i;have d:=fol_rng a o p q g;exact⟨q,by simp[fol,g],by simp[has,f],(acc_cat_l a b o _ q d.2.2.1 d.2.2.2).2 ⟨u,v,rfl,ha,j⟩⟩
def acc_plus(a:Rx)(o:Nat):∀(w:List Nat) (p:Nat),Acc (plus a) o p w<->Acc (star a) o p w
 |[],p=>Iff.rfl
 |c::w,p=>by
  simp only[Acc];constructor
  .rintro ⟨q,d,b,ha⟩;exact⟨q,d,b,(acc_plus a o w q).1 ha⟩
  rintro ⟨q,d,b,ha⟩;exact⟨q,d,b,(acc_plus a o w q).2 ha⟩
def acc_opt(a:Rx)(o:Nat):∀(w:List Nat) (p:Nat),Acc (opt a) o p w<->Acc a o p w
 |[],p=>Iff.rfl
 |c::w,p=>by
  simp only[Acc];constructor
  .rintro ⟨q,d,b,ha⟩;exact⟨q,d,b,(acc_opt a o w q).1 ha⟩
  rintro ⟨q,d,b,ha⟩;exact⟨q,d,b,(acc_opt a o w q).2 ha⟩
def acc_star_of(a:Rx)(o:Nat)(ih:∀w,Mt a o w<->a.Lg w):∀(w:List Nat) (p:Nat),Acc (star a) o p w->∃u v,w=u++v/\Acc a o p u/\St a.Lg v
 |[],p,h=>⟨[],[],rfl,h,.nil⟩
 |c::w,p,⟨q,b,hh,ha⟩=>by
  let⟨u,v,e,d,f⟩:=acc_star_of a o ih w q ha;simp only[fol,dp,ZS]at b;rcases b with b|⟨i,g⟩
  .exact⟨c::u,v,by simp[e],⟨q,b,hh,d⟩,f⟩
  refine⟨[],c::w,rfl,i,?_⟩;rw[e,<-Zt];exact .cons ((ih _).1 ⟨q,g,hh,d⟩) f
def acc_star_to(a:Rx)(o:Nat)(ih:∀w,Mt a o w<->a.Lg w):∀(n:Nat) (u v:List Nat) (p:Nat),u.length+v.length<=n->Acc a o p u->St a.Lg v->Acc (star a) o p (u++v)
 |0,u,v,p,hn,hu,hv=>by
  have b:u=[]:=dA Qo;have e2:v=[]:=dA Qo;subst b;subst e2;exact hu
 |n+1,c::u,v,p,hn,⟨q,hq,d,ha⟩,hv=>
  ⟨q,by simp[fol,hq],d,acc_star_to a o ih n u v q (by simp at hn;omega) ha hv⟩
 |n+1,[],v,p,hn,hu,hv=>by
  by_cases e:v=[]
  .subst e;exact hu
  let⟨c,x,y,b,h,i⟩:=hv.split e;rw[b]at hn ⊢;let⟨q,f,d,ha⟩:=(ih _).2 h;have g:a.lst o p=true:=hu;exact⟨q,by simp[fol,g,f],d,acc_star_to a o ih n x y q (by simp at hn;omega) ha i⟩
def mt_lg:∀(e:Rx) (o:Nat) (w:List Nat),Mt e o w<->e.Lg w
 |eps,o,[]=>by simp[Mt,nul,Lg]
 |eps,o,b::w=>by simp[Mt,fst,Lg]
 |lit f,o,[]=>by simp[Mt,nul,Lg]
 |lit f,o,b::w=>by
  simp only[Mt,fst,has,Lg];constructor
  .rintro ⟨q,g,d,ha⟩;simp at g;subst g;simp at d;cases w with
   |nil=>exact⟨b,rfl,d⟩
   |cons c w=>let⟨_,h,_⟩:=ha;simp[fol]at h
  rintro ⟨c,e,A⟩;cases e;exact⟨o,Qs,by simp[A],by simp[Acc,lst]⟩
 |cat a b,o,[]=>by
  simp only[Mt,nul,Lg,Cc,ZS];constructor
  .rintro ⟨h,k⟩;exact⟨[],[],rfl,(mt_lg a o []).1 h,(mt_lg b o []).1 k⟩
  rintro ⟨u,v,e,l,m⟩;obtain⟨rfl,rfl⟩:=List.append_eq_nil_iff.1 e.symm;exact⟨(mt_lg a o []).2 l,(mt_lg b o []).2 m⟩
 |cat a b,o,c::w=>by
  constructor
  .rintro ⟨q,g,d,ha⟩;simp only[fst,dp,ZS]at g;rcases g with g|⟨t,g⟩
   .have i:=fst_rng a o q g;have e2:b.has (o+a.sz) q c=false:=has_lt Qo;simp only[has,e2,dw]at d;let⟨u,v,e,l,m⟩:=(acc_cat_l a b o w q i.1 i.2).1 ha;exact⟨c::u,v,by simp[e],(mt_lg a o _).1 ⟨q,g,d,l⟩,(mt_lg b _ v).1 m⟩
   have i:=fst_rng b (o+a.sz) q g;have e2:a.has o q c=false:=has_lt Qo;simp only[has,e2,dx]at d;exact⟨[],c::w,rfl,(mt_lg a o []).1 t,(mt_lg b (o+a.sz) _).1 ⟨q,g,d,(acc_cat_r a b o w q i.1).1 ha⟩⟩
  rintro ⟨u,v,e,l,m⟩;cases u with
  |nil=>
   rw[dz]at e;subst e;let⟨q,j,d,ha⟩:=(mt_lg b (o+a.sz) _).2 m;have i:=fst_rng b (o+a.sz) q j;have t:a.nul=true:=(mt_lg a o []).2 l;exact⟨q,by simp[fst,t,j],by simp[has,d],(acc_cat_r a b o w q i.1).2 ha⟩
  |cons r u=>
   rw[Zt]at e;cases e;let⟨q,j,d,ha⟩:=(mt_lg a o _).2 l;have i:=fst_rng a o q j;exact⟨q,by simp[fst,j],by simp[has,d],(acc_cat_l a b o _ q i.1 i.2).2 ⟨u,v,rfl,ha,(mt_lg b _ v).2 m⟩⟩
 |alt a b,o,[]=>by
  have h1:=mt_lg a o [];have h2:=mt_lg b o [];simp only[Mt]at h1 h2;simp only[Mt,nul,Lg,dp,h1,h2]
 |alt a b,o,c::w=>by
  constructor
  .rintro ⟨q,g,d,ha⟩;simp only[fst,dp]at g;rcases g with g|g
   .have i:=fst_rng a o q g;have e2:b.has (o+a.sz) q c=false:=has_lt Qo;simp only[has,e2,dw]at d;exact Or.inl ((mt_lg a o _).1 ⟨q,g,d,(acc_alt_l a b o w q i.1 i.2).1 ha⟩)
   have i:=fst_rng b (o+a.sz) q g;have e2:a.has o q c=false:=has_lt Qo;simp only[has,e2,dx]at d;exact Or.inr ((mt_lg b (o+a.sz) _).1 ⟨q,g,d,(acc_alt_r a b o w q i.1).1 ha⟩)
  rintro (h|h)
  .let⟨q,j,d,ha⟩:=(mt_lg a o _).2 h;have i:=fst_rng a o q j;exact⟨q,by simp[fst,j],by simp[has,d],(acc_alt_l a b o w q i.1 i.2).2 ha⟩
  let⟨q,j,d,ha⟩:=(mt_lg b (o+a.sz) _).2 h;have i:=fst_rng b (o+a.sz) q j;exact⟨q,by simp[fst,j],by simp[has,d],(acc_alt_r a b o w q i.1).2 ha⟩
 |star a,o,[]=>by
  simp only[Mt,nul,Lg];exact⟨λ_=>.nil,λ_=>trivial⟩
 |star a,o,c::w=>by
  have ih:=λw=>mt_lg a o w
  constructor
  .rintro ⟨q,g,d,ha⟩;let⟨u,v,e,l,m⟩:=acc_star_of a o ih w q ha;have:St a.Lg ((c::u)++v):=.cons ((ih _).1 ⟨q,g,d,l⟩) m;rw[e];exact this
  intro h;let⟨r,x,y,s,n,z⟩:=St.split h Qs;cases s;let⟨q,j,d,ha⟩:=(ih _).2 n;exact⟨q,j,d,acc_star_to a o ih _ x y q (Zg _) ha z⟩
 |plus a,o,[]=>by
  have h1:=mt_lg a o [];simp only[Mt]at h1;simp only[Mt,nul,Lg,Cc,h1];constructor
  .intro h;exact⟨[],[],rfl,h,.nil⟩
  rintro ⟨u,v,e,l,m⟩;obtain⟨rfl,rfl⟩:=List.append_eq_nil_iff.1 e.symm;exact l
 |plus a,o,c::w=>by
  have ih:=λw=>mt_lg a o w
  constructor
  .rintro ⟨q,g,d,ha⟩;let⟨u,v,e,l,m⟩:=acc_star_of a o ih w q ((acc_plus a o w q).1 ha);exact⟨c::u,v,by simp[e],(ih _).1 ⟨q,g,d,l⟩,m⟩
  rintro ⟨u,v,e,l,m⟩;have p:∀x y,c::w=x++y->x≠[]->a.Lg x->St a.Lg y->Mt (plus a) o (c::w):=λx y e n h k=>by
   cases x with
   |nil=>exact absurd rfl n
   |cons r x=>
    rw[Zt]at e;cases e;let⟨q,j,d,ha⟩:=(ih _).2 h;exact⟨q,j,d,(acc_plus a o _ q).2 (acc_star_to a o ih _ x y q (Zg _) ha k)⟩
  by_cases e0:u=[]
  .subst e0;rw[dz]at e;let⟨r,x,y,s,n,z⟩:=m.split (by rw[<-e];simp);exact p (r::x) y (by rw[e,s];simp) Qs n z
  exact p u v e e0 l m
 |opt a,o,[]=>by simp[Mt,nul,Lg]
 |opt a,o,c::w=>by
  have ih:=mt_lg a o (c::w);simp only[Mt]at ih;simp only[Mt,Lg,fst,has,acc_opt,ih];simp
end Rx
abbrev Ln:=List Nat->Prop
def Ep:Ln:=λw=>w=[]
def Un(L M:Ln):Ln:=λw=>L w\/M w
def No:Ln:=λ_=>False
def Op(L:Ln):Ln:=λw=>w=[]\/L w
def Li(f:Nat->Bool):Ln:=λw=>∃b,w=[b]/\b<256/\f b=true
def Ge{L M:Ln}(h:∀w,L w<->M w):L=M:=funext fun w=>propext (h w)
namespace Rx
def Lq:Rx->Ln
 |eps=>Ep
 |lit f=>Li f
 |cat a b=>Cc a.Lq b.Lq
 |alt a b=>Un a.Lq b.Lq
 |star a=>St a.Lq
 |plus a=>Cc a.Lq (St a.Lq)
 |opt a=>Op a.Lq
def st_bytes{L M:Ln}(h:∀w,L w<->M w/\∀b∈w,b<256)(w:List Nat):St L w<->St M w/\∀b∈w,b<256:=by
 constructor
 .intro k
  induction k with
  |nil=>exact⟨.nil,λb a=>by simp at a⟩
  |cons h1 _ ih=>
   have h2:=(h _).1 h1;exact⟨.cons h2.1 ih.1,λb a=>by
    rcases ZU.1 a with a|a
    .exact h2.2 b a
    exact ih.2 b a⟩
 rintro ⟨k,a⟩
 induction k with
 |nil=>exact .nil
 |cons h1 _ ih=>exact .cons ((h _).2 ⟨h1,λb c=>a b (by simp[c])⟩) (ih (λb c=>a b (by simp[c])))
def cc_bytes{L M L' M':Ln}(h:∀w,L w<->L' w/\∀b∈w,b<256)(k:∀w,M w<->M' w/\∀b∈w,b<256)(w:List Nat):Cc L M w<->Cc L' M' w/\∀b∈w,b<256:=by
 constructor
 .rintro ⟨u,v,e,d,f⟩;have h1:=(h u).1 d;have h2:=(k v).1 f;refine⟨⟨u,v,e,h1.1,h2.1⟩,λb a=>?_⟩;rw[e]at a;rcases ZU.1 a with a|a
  .exact h1.2 b a
  exact h2.2 b a
 rintro ⟨⟨u,v,e,d,f⟩,a⟩;exact⟨u,v,e,(h u).2 ⟨d,λb c=>a b (by rw[e];simp[c])⟩,(k v).2 ⟨f,λb c=>a b (by rw[e];simp[c])⟩⟩
def lq_lg:∀(e:Rx) (w:List Nat),e.Lq w<->e.Lg w/\∀b∈w,b<256
 |eps,w=>⟨λh=>⟨h,λb d=>by
   have:w=[]:=h;rw[this]at d;simp at d⟩,λh=>h.1⟩
 |lit f,w=>by
  constructor
  .rintro ⟨b,e,d,g⟩;exact⟨⟨b,e,g⟩,λc i=>by rw[e]at i;simp at i;omega⟩
  rintro ⟨⟨b,e,g⟩,d⟩;exact⟨b,e,d b (by simp[e]),g⟩
 |cat a b,w=>cc_bytes (lq_lg a) (lq_lg b) w
 |alt a b,w=>by
  have h1:=lq_lg a w;have h2:=lq_lg b w;show a.Lq w\/b.Lq w<->(a.Lg w\/b.Lg w)/\_;rw[h1,h2];constructor
  .rintro (h|h)
   .exact⟨Or.inl h.1,h.2⟩
   exact⟨Or.inr h.1,h.2⟩
  rintro ⟨h|h,k⟩
  .exact Or.inl ⟨h,k⟩
  exact Or.inr ⟨h,k⟩
 |star a,w=>st_bytes (lq_lg a) w
 |plus a,w=>cc_bytes (lq_lg a) (st_bytes (lq_lg a)) w
 |opt a,w=>by
  have h1:=lq_lg a w;show w=[]\/a.Lq w<->(w=[]\/a.Lg w)/\_;rw[h1];constructor
  .rintro (h|h)
   .exact⟨Or.inl h,λb d=>by rw[h]at d;simp at d⟩
   exact⟨Or.inr h.1,h.2⟩
  rintro ⟨h|h,k⟩
  .exact Or.inl h
  exact Or.inr ⟨h,k⟩
end Rx
end
section
structure Nd where
 kind:Nat
 kids:List Nat
 up:Int
 at_:Nat
 inn:Nat->Bool
def YA(T:Nat->Nd):Nat->Nat
 |0=>0
 |n+1=>YA T n+if (T n).kind=0 then 1 else 0
def Vr(T:Nat->Nd){a b:Nat}(h:a<=b):YA T a<=YA T b:=by
 induction b with
 |zero=>
   have:a=0:=Qo
   subst this;exact Zg _
 |succ b ih=>
  by_cases e:a=b+1
  .subst e;exact Zg _
  have:=ih Qo;simp only[YA];omega
variable {s:ByteArray}{fa fb:Int}{kids ks:List Nat}{N N' P c h i j k kind lo m n n' t:Nat}{inb inn nl:N_}{bg:Nat->N_}{T:Nat->Nd}
def Rg{a:Nat}(z:(T m).kind=0)(h:m<a):YA T m<YA T a:=by
 have h1:=Vr T (show m+1<=a from h);simp only[YA,z,dB]at h1;omega
variable {T':Nat->Nd}
def RU:∀n,(∀i,i<n->(T' i).kind=(T i).kind)->YA T' n=YA T n
 |0,_=>rfl
 |n+1,h=>by simp only[YA];rw[RU n (λi a=>h i Qo),h n Qo]
def U7(b e:Nat->Bool):List Nat->Bool
 |[]=>false
 |k::ks=>b k || (e k&&U7 b e ks)
def PG(tl:Nat->Ln)(ks:List Nat):Ln:=ks.foldl (λL k=>Cc L (tl k)) Ep
structure xP (T:Nat->Nd) (N:Nat) (nl:Nat->Bool) (bg:Nat->Nat->Bool) (bh:Nat->Option Nat->Bool) (tl:Nat->Ln):Prop where
 nl0:∀n,n<N->(T n).kind=0->nl n=false
 nl1:∀n,n<N->(T n).kind=1\/(T n).kind=4->nl n=(T n).kids.all nl
 nl2:∀n,n<N->(T n).kind=2->nl n=(T n).kids.any nl
 nl3:∀n,n<N->(T n).kind=3->nl n=true
 bg0:∀n m,n<N->(T n).kind=0->bg n m=(n==m)
 bg1:∀n m,n<N->(T n).kind=1->bg n m=U7 (fun k=>bg k m) nl (T n).kids
 bg2:∀n m,n<N->(T n).kind=2\/(T n).kind=3\/(T n).kind=4->bg n m=(T n).kids.any (fun k=>bg k m)
 bhR:∀(n:Nat) (q:Option Nat),n<N->(T n).up<0->bh n q=(q==none)
 bh1:∀(n u:Nat) (q:Option Nat),n<N->(T n).up=(u:Int)->(T u).kind=1->bh n q=(q.any (fun m=>U7 (fun k=>bg k m) nl ((T u).kids.drop ((T n).at_+1))) || (((T u).kids.drop ((T n).at_+1)).all nl&&bh u q))
 bh2:∀(n u:Nat) (q:Option Nat),n<N->(T n).up=(u:Int)->(T u).kind=2->bh n q=bh u q
 bh3:∀(n u:Nat) (q:Option Nat),n<N->(T n).up=(u:Int)->(T u).kind=3\/(T u).kind=4->bh n q=(q.any (fun m=>bg n m) || bh u q)
 tl0:∀n,n<N->(T n).kind=0->tl n=Li (T n).inn
 tl1:∀n,n<N->(T n).kind=1->tl n=PG tl (T n).kids
 tl2:∀n,n<N->(T n).kind=2->∀w,tl n w<->∃c,c∈(T n).kids/\tl c w
 tl3:∀n c,n<N->(T n).kind=3->(T n).kids=[c]->tl n=St (tl c)
 tl4:∀n c,n<N->(T n).kind=4->(T n).kids=[c]->tl n=Cc (tl c) (St (tl c))
structure xW (T:Nat->Nd) (nl:Nat->Bool) (bg:Nat->Nat->Bool) (bh:Nat->Option Nat->Bool) (tl:Nat->Ln) (lo n:Nat) (e:Rx):Prop where
 c:YA T (n+1)=YA T lo+e.sz
 e0:nl n=e.nul
 f:∀m,(T m).kind=0->bg n m=e.fst (YA T lo) (YA T m)
 b:∀m q,lo<=m->m<=n->(T m).kind=0->(∀x,q=some x->(T x).kind=0)->bh m q=(q.any (fun x=>e.fol (YA T lo) (YA T m) (YA T x)) || (e.lst (YA T lo) (YA T m)&&bh n q))
 h:∀m b,lo<=m->m<=n->(T m).kind=0->b<256->(T m).inn b=e.has (YA T lo) (YA T m) b
 g:tl n=e.Lq
structure XU (a b:Rx):Prop where
 s:a.sz=b.sz
 n:a.nul=b.nul
 f:∀o p,a.fst o p=b.fst o p
 l:∀o p,a.lst o p=b.lst o p
 o:∀o p q,a.fol o p q=b.fol o p q
 h:∀o p c,a.has o p c=b.has o p c
def XU.refl(a:Rx):XU a a:=⟨rfl,rfl,λ_ _=>rfl,λ_ _=>rfl,λ_ _ _=>rfl,λ_ _ _=>rfl⟩
def XU.symm{a b:Rx}(h:XU a b):XU b a:=⟨h.s.symm,h.n.symm,λ_ _=>(h.f _ _).symm,λ_ _=>(h.l _ _).symm,λ_ _ _=>(h.o _ _ _).symm,λ_ _ _=>(h.h _ _ _).symm⟩
def XU.trans{a b c:Rx}(h:XU a b)(k:XU b c):XU a c:=⟨h.s.trans k.s,h.n.trans k.n,λ_ _=>(h.f _ _).trans (k.f _ _),λ_ _=>(h.l _ _).trans (k.l _ _),λ_ _ _=>(h.o _ _ _).trans (k.o _ _ _),λ_ _ _=>(h.h _ _ _).trans (k.h _ _ _)⟩
def Ha{a b:Rx}(H:∀p,a.lst 0 p=b.lst 0 p)(J:∀p q,a.fol 0 p q=b.fol 0 p q)(z:∀p c,a.has 0 p c=b.has 0 p c):∀(w:List Nat) (p:Nat),a.Acc 0 p w<->b.Acc 0 p w
 |[],p=>by simp only[Rx.Acc,H]
 |c::w,p=>by simp only[Rx.Acc,J,z,Ha H J z w]
def Oi{a b:Rx}(Y:a.nul=b.nul)(H:∀p,a.fst 0 p=b.fst 0 p)(J:∀p,a.lst 0 p=b.lst 0 p)(Z:∀p q,a.fol 0 p q=b.fol 0 p q)(z:∀p c,a.has 0 p c=b.has 0 p c):a.Lq=b.Lq:=Ge λw=>by
 rw[Rx.lq_lg,Rx.lq_lg,<-Rx.mt_lg a 0 w,<-Rx.mt_lg b 0 w];cases w with
 |nil=>simp only[Rx.Mt,Y]
 |cons c w=>simp only[Rx.Mt,H,z,Ha J Z z w]
def XU.lq{a b:Rx}(h:XU a b):a.Lq=b.Lq:=Oi h.n (h.f 0) (h.l 0) (h.o 0) (h.h 0)
variable {tl:Nat->Ln}{e e':Rx}
def xW.eq{bh:Nat->Option Nat->Bool}(h:xW T nl bg bh tl lo n e)(k:XU e e'):xW T nl bg bh tl lo n e':=
 ⟨by rw[<-k.s];exact h.c,by rw[<-k.n];exact h.e0,fun m hm=>by rw[<-k.f];exact h.f m hm,
  fun m q h1 h2 h3 h4=>by
  rw[h.b m q h1 h2 h3 h4,k.l];congr 2
  funext x;exact k.o _ _ _,
  fun m b h1 h2 h3 h4=>by rw[<-k.h];exact h.h m b h1 h2 h3 h4,by rw[<-k.lq];exact h.g⟩
def XU.alt_assoc(a b c:Rx):XU (.alt (.alt a b) c) (.alt a (.alt b c)):=by
 refine⟨?_,?_,λo p=>?_,λo p=>?_,λo p q=>?_,λo p q=>?_⟩
 .simp only[Rx.sz];omega
 .simp only[Rx.nul];exact dC ..
 .simp only[Rx.fst,Rx.sz,<-ZN];exact dC ..
 .simp only[Rx.lst,Rx.sz,<-ZN];exact dC ..
 .simp only[Rx.fol,Rx.sz,<-ZN];exact dC ..
 simp only[Rx.has,Rx.sz,<-ZN];exact dC ..
def XU.opt_alt(a:Rx):XU (.alt a .eps) (.opt a):=by
 refine⟨?_,?_,λo p=>?_,λo p=>?_,λo p q=>?_,λo p q=>?_⟩<;>simp[Rx.sz,Rx.nul,Rx.fst,Rx.lst,Rx.fol,Rx.has]
def XU.cat_eps(a:Rx):XU (.cat .eps a) a:=by
 refine⟨?_,?_,λo p=>?_,λo p=>?_,λo p q=>?_,λo p q=>?_⟩<;>simp[Rx.sz,Rx.nul,Rx.fst,Rx.lst,Rx.fol,Rx.has]
def Wl:List Rx->Rx
 |[]=>.eps
 |x::xs=>xs.foldl .alt x
def Ms(l:List Rx)(e:Rx):Wl (l++[e])=if l=[] then e else .alt (Wl l) e:=by
 rcases l with _|⟨x,xs⟩
 .rfl
 simp[Wl]
def Hj:∀(l:List Rx) (e:Rx),XU (Wl (l++[e])) (l.foldr .alt e):=by
 have a:∀(l:List Rx) (x e:Rx),XU ((l++[e]).foldl .alt x) (.alt x (l.foldr .alt e)):=by
  intro l
  induction l with
  |nil=>intro x e;exact XU.refl _
  |cons y l ih=>
   intro x e;simp only[Zt,dr,List.foldr_cons];exact(ih (.alt x y) e).trans (XU.alt_assoc _ _ _)
 intro l e;rcases l with _|⟨x,xs⟩
 .exact XU.refl _
 exact a xs x e
structure ET (T T':Nat->Nd) (lo n:Nat):Prop where
 k:∀i,i<=n->(T' i).kind=(T i).kind/\(T' i).kids=(T i).kids/\(T' i).inn=(T i).inn
 u:∀i,lo<=i->i<n->(T' i).up=(T i).up/\(T' i).at_=(T i).at_
def ET.trans{z:Nat->Nd}(h:ET T T' lo n)(k:ET T' z lo n):ET T z lo n:=
 ⟨λi a=>⟨(k.k i a).1.trans (h.k i a).1,(k.k i a).2.1.trans (h.k i a).2.1,(k.k i a).2.2.trans (h.k i a).2.2⟩,λi h1 h2=>⟨(k.u i h1 h2).1.trans (h.u i h1 h2).1,(k.u i h1 h2).2.trans (h.u i h1 h2).2⟩⟩
def ET.mono{lo':Nat}(h:ET T T' lo n)(h1:lo<=lo')(h2:n'<=n):ET T T' lo' n':=
 ⟨λi c=>h.k i Qo,λi a b=>h.u i Qo Qo⟩
def Vk(T:Nat->Nd)(lo n:Nat)(e:Rx):Prop:=∀T' N' nl bg bh tl,ET T T' lo n->n<N'->xP T' N' nl bg bh tl->xW T' nl bg bh tl lo n e
def Vk.eq(h:Vk T lo n e)(k:XU e e'):Vk T lo n e':=λT' N' nl bg bh tl h1 h2 h3=>(h T' N' nl bg bh tl h1 h2 h3).eq k
def Vk.ext(h:Vk T lo n e)(k:ET T T' lo n):Vk T' lo n e:=λa N' nl bg bh tl h1 h2 h3=>h a N' nl bg bh tl (k.trans h1) h2 h3
inductive QS (T:Nat->Nd):Nat->Nat->Bool->Prop
 |stop {k:Nat} (h1:(T k).kind≠3) (h2:(T k).kids.length≠1) (h3:∀c d,(T k).kids=[c,d]->(T k).kind=2->¬((T d).kind=1/\(T d).kids=[])):QS T k k false
 |star {k c k':Nat}{b:Bool} (h1:(T k).kind=3) (h2:(T k).kids=[c]) (h:QS T c k' b):QS T k k' true
 |one {k c k':Nat}{b:Bool} (h1:(T k).kind≠3) (h2:(T k).kids=[c]) (h:QS T c k' b):QS T k k' b
 |may {k c d k':Nat}{b:Bool} (h1:(T k).kind=2) (h2:(T k).kids=[c,d]) (h3:(T d).kind=1) (h4:(T d).kids=[]) (h:QS T c k' b):QS T k k' true
def Wf(T:Nat->Nd)(N:Nat):Prop:=∀i,i<N->∀c∈(T i).kids,c<i
def QS.ext(z:Wf T N){k H:Nat}{b:Bool}(h:QS T k H b):k<N->(∀i,i<=k->(T' i).kind=(T i).kind/\(T' i).kids=(T i).kids)->QS T' k H b:=by
 induction h with
 |stop h1 h2 h3=>
  intro f a;rename_i k;let⟨e,e2⟩:=a k (Zg _);refine QS.stop (by rw[e];exact h1) (by rw[e2];exact h2) (λc d g p m=>?_);rw[e2]at g;have q:=z k f d (by rw[g];simp);let⟨j,l⟩:=a d Qo;rw[j,l]at m;exact h3 c d g (by rw[<-e];exact p) m
 |star h1 h2 h ih=>
  intro f a;rename_i k c H b;let⟨e,e2⟩:=a k (Zg _);have n:=z k f c (by rw[h2];simp);exact QS.star (by rw[e];exact h1) (by rw[e2];exact h2) (ih Qo (λi o=>a i Qo))
 |one h1 h2 h ih=>
  intro f a;rename_i k c H b;let⟨e,e2⟩:=a k (Zg _);have n:=z k f c (by rw[h2];simp);exact QS.one (by rw[e];exact h1) (by rw[e2];exact h2) (ih Qo (λi o=>a i Qo))
 |may h1 h2 h3 g h ih=>
  intro f a;rename_i k c d H b;let⟨e,e2⟩:=a k (Zg _);have n:=z k f c (by rw[h2];simp);have q:=z k f d (by rw[h2];simp);let⟨j,l⟩:=a d Qo;exact QS.may (by rw[e];exact h1) (by rw[e2];exact h2) (by rw[j];exact h3) (by rw[l];exact g) (ih Qo (λi o=>a i Qo))
structure WF (a b:Rx):Prop where
 s:a.sz=b.sz
 f:∀o p,a.fst o p=b.fst o p
 l:∀o p,a.lst o p=b.lst o p
 o:∀o p q,(a.fol o p q || (a.lst o p&&a.fst o q))=(b.fol o p q || (b.lst o p&&b.fst o q))
 h:∀o p c,a.has o p c=b.has o p c
def WF.of{a b:Rx}(h:XU a b):WF a b:=⟨h.s,h.f,h.l,λo p q=>by rw[h.o,h.l,h.f],h.h⟩
def WF.trans{a b c:Rx}(h:WF a b)(k:WF b c):WF a c:=⟨h.s.trans k.s,λ_ _=>(h.f _ _).trans (k.f _ _),λ_ _=>(h.l _ _).trans (k.l _ _),λ_ _ _=>(h.o _ _ _).trans (k.o _ _ _),λ_ _ _=>(h.h _ _ _).trans (k.h _ _ _)⟩
structure Good (T:Nat->Nd) (N lo k:Nat) (e:Rx):Prop where
 lt:k<N
 ge:lo<=k
 cl:YA T (k+1)=YA T lo+e.sz
 st:Vk T lo k e
 un:∃k' b e',QS T k k' b/\lo<=k'/\k'<=k/\Vk T lo k' e'/\YA T (k'+1)=YA T (k+1)/\WF e' e/\(b=false->e'.nul=e.nul)/\(b=true->e.nul=true)
variable {e2:Rx}
def Good.eq(h:Good T N lo k e)(q:XU e e2):Good T N lo k e2:=by
 refine⟨h.lt,h.ge,by rw[<-q.s];exact h.cl,h.st.eq q,?_⟩;let⟨j,b,e',h1,h2,h3,c,d,f,g,i⟩:=h.un;exact⟨j,b,e',h1,h2,h3,c,d,f.trans (WF.of q),λa=>by rw[g a,q.n],λa=>by rw[<-q.n];exact i a⟩
def Good.ext(H:Wf T N)(h:Good T N lo k e)(z:ET T T' lo k)(J:N<=N'):Good T' N' lo k e:=by
 have a:∀n,n<=k+1->YA T' n=YA T n:=λn l=>RU n (λi c=>(z.k i Qo).1)
 refine⟨by have:=h.lt;omega,h.ge,by rw[a _ Qo,a _ (by have:=h.ge;omega)];exact h.cl,h.st.ext z,?_⟩;let⟨j,b,e',h1,h2,h3,d,f,g⟩:=h.un;exact⟨j,b,e',h1.ext H h.lt (λi c=>⟨(z.k i c).1,(z.k i c).2.1⟩),h2,h3,d.ext (z.mono (Zg _) h3),by rw[a _ Qo,a _ Qo];exact f,g⟩
inductive Yy (T:Nat->Nd) (N:Nat):Nat->List Nat->List Rx->Nat->Prop
 |nil (lo:Nat):Yy T N lo [] [] lo
 |snoc {lo h k:Nat}{ks:List Nat}{es:List Rx}{e:Rx} (c:Yy T N lo ks es h) (g:Good T N h k e):Yy T N lo (ks++[k]) (es++[e]) (k+1)
def Yy.le{es:List Rx}(c:Yy T N lo ks es h):lo<=h/\ks.length=es.length/\(∀k∈ks,lo<=k/\k<h)/\(ks≠[]->h<=N):=by
 induction c with
 |nil=>exact⟨Zg _,rfl,Qs,Qs⟩
 |snoc c g ih=>
  let⟨h1,h2,h3,b⟩:=ih;have:=g.ge;refine⟨Qo,by simp[h2],λx a=>?_,λ_=>g.lt⟩;rcases ZU.1 a with h|h
  .have:=h3 x h;omega
  rw[ZC.1 h];omega
def Yy.cl{es:List Rx}(c:Yy T N lo ks es h):YA T h=YA T lo+(es.map Rx.sz).sum:=by
 induction c with
 |nil=>simp
 |snoc c g ih=>rw[g.cl,ih];simp;omega
def A5(l:List Rx):(Wl l).sz=(l.map Rx.sz).sum:=by
 have a:∀(l:List Rx) (x:Rx),(l.foldl .alt x).sz=x.sz+(l.map Rx.sz).sum:=by
  intro l
  induction l with
  |nil=>intro x;simp
  |cons y l ih=>intro x;simp only[dr,ih,Rx.sz,dt,List.sum_cons];omega
 rcases l with _|⟨x,l⟩
 .rfl
 simp[Wl,a]
def Yy.ext{es:List Rx}(Y:Wf T N)(c:Yy T N lo ks es h)(z:∀i,i<h->(T' i).kind=(T i).kind/\(T' i).kids=(T i).kids/\(T' i).inn=(T i).inn)
  (H:∀i,lo<=i->i<h->i ∉ ks->(T' i).up=(T i).up/\(T' i).at_=(T i).at_) (J:N<=N'):Yy T' N' lo ks es h:=by
 induction c with
 |nil=>exact Yy.nil _
 |snoc c g ih=>
  rename_i h k ks es e;let⟨h1,_,h3,_⟩:=c.le;have l:=g.ge;refine Yy.snoc (ih (λi f=>z i Qo) (λi a b j=>H i a Qo (λd=>?_))) (g.ext Y ⟨λi f=>z i Qo,λi a b=>H i Qo Qo (λd=>?_)⟩ J)
  .rcases ZU.1 d with d|d
   .exact j d
   rw[ZC.1 d]at b;omega
  rcases ZU.1 d with d|d
  .have:=h3 i d;omega
  rw[ZC.1 d]at b;omega
inductive CS (T:Nat->Nd) (nl:Nat->Bool) (bg:Nat->Nat->Bool) (bh:Nat->Option Nat->Bool) (tl:Nat->Ln):Nat->List Nat->List Rx->Nat->Prop
 |nil (lo:Nat):CS T nl bg bh tl lo [] [] lo
 |snoc {lo h k:Nat}{ks:List Nat}{es:List Rx}{e:Rx} (c:CS T nl bg bh tl lo ks es h) (hk:h<=k) (g:xW T nl bg bh tl h k e):CS T nl bg bh tl lo (ks++[k]) (es++[e]) (k+1)
def CS.le{bh:Nat->Option Nat->Bool}{es:List Rx}(c:CS T nl bg bh tl lo ks es h):lo<=h:=by
 induction c with
 |nil=>exact Zg _
 |snoc c hk g ih=>omega
def CS.none{bh:Nat->Option Nat->Bool}{es:List Rx}(c:CS T nl bg bh tl lo ks es h)(hk:ks=[]):lo=h:=by
 cases c with
 |nil=>rfl
 |snoc c hk g=>simp at hk
def Yy.cs{es:List Rx}{bh:Nat->Option Nat->Bool}(c:Yy T N lo ks es h)(hk:∀i,i<h->(T' i).kind=(T i).kind/\(T' i).kids=(T i).kids/\(T' i).inn=(T i).inn)
  (hu:∀i,lo<=i->i<h->i ∉ ks->(T' i).up=(T i).up/\(T' i).at_=(T i).at_) (hN:h<=N') (hE:xP T' N' nl bg bh tl):CS T' nl bg bh tl lo ks es h:=by
 induction c with
 |nil=>exact CS.nil _
 |snoc c g ih=>
  rename_i h k ks es e;obtain⟨h1,_,h3,_⟩:=c.le;have f:=g.ge;refine CS.snoc (ih (λi j=>hk i Qo) (λi a b l=>hu i a Qo (λd=>?_)) Qo) f (g.st T' N' nl bg bh tl ⟨λi j=>hk i Qo,λi a b=>hu i Qo Qo (λd=>?_)⟩ Qo hE)
  .rcases ZU.1 d with d|d
   .exact l d
   rw[ZC.1 d]at b;omega
  rcases ZU.1 d with d|d
  .have:=h3 i d;omega
  rw[ZC.1 d]at b;omega
def SI(b e:N_)(x y:List Nat):U7 b e (x++y)=(U7 b e x || (x.all e&&U7 b e y)):=by
 induction x with
 |nil=>simp[U7]
 |cons k x ih=>simp only[Zt,U7,ih,dD];cases b k<;>cases e k<;>simp
def CS.row{bh:Nat->Option Nat->Bool}(hE:xP T N nl bg bh tl){M:Nat}{KS:List Nat}(hM:(T M).kind=1)(hMk:(T M).kids=KS)(hup:∀j k,KS[j]?=some k->k<N/\(T k).up=(M:Int)/\(T k).at_=j)
  {lo h:Nat}{ks:List Nat}{es:List Rx} (c:CS T nl bg bh tl lo ks es h):∀rest,KS=ks++rest ->
  YA T h=YA T lo+(Rx.rowOf es).sz/\(Rx.rowOf es).nul=ks.all nl/\(∀m,(T m).kind=0->U7 (λk=>bg k m) nl ks=(Rx.rowOf es).fst (YA T lo) (YA T m)) /\
  (∀m q,lo<=m->m<h->(T m).kind=0->(∀x,q=some x->(T x).kind=0)->bh m q=(q.any (λx=>(Rx.rowOf es).fol (YA T lo) (YA T m) (YA T x)) || ((Rx.rowOf es).lst (YA T lo) (YA T m)&&(q.any (λx=>U7 (λk=>bg k x) nl rest) || (rest.all nl&&bh M q))))) /\
  (∀m b,lo<=m->m<h->(T m).kind=0->b<256->(T m).inn b=(Rx.rowOf es).has (YA T lo) (YA T m) b):=by
 induction c with
 |nil=>
  intro rest _;refine⟨by simp[Rx.rowOf,Rx.sz],by simp[Rx.rowOf,Rx.nul],λm _=>by simp[U7,Rx.rowOf,Rx.fst],λm q h1 h2=>Qo,λm b h1 h2=>Qo⟩
 |snoc c hk g ih=>
  rename_i h k ks es e;intro rest i;obtain⟨w,u,y,z,A⟩:=ih (k::rest) (by rw[i];simp);have v:=c.le;obtain⟨u0,u1,u2⟩:=hup ks.length k (by rw[i];simp);rw[Rx.rowOf_snoc];have l:KS.drop (ks.length+1)=rest:=by rw[i];simp
  have o:∀q,bh k q=(q.any (λx=>U7 (λk=>bg k x) nl rest) || (rest.all nl&&bh M q)):=λq=>by
   rw[hE.bh1 k M q u0 u1 hM,hMk,u2,l]
  have p:=w.symm;refine⟨?_,?_,λm t=>?_,λm q h1 h2 h3 n=>?_,λm b h1 h2 h3 n=>?_⟩
  .rw[g.c,Rx.sz];omega
  .simp only[Rx.nul,u,List.all_append,dD,List.all_nil,Bool.and_true,g.e0]
  .simp only[SI,U7,Rx.fst,y m t,p,u,dE,dw,g.f m t]
  .simp only[Rx.fol,Rx.lst,p];by_cases d:m<h
   .have a:=Rg h3 d;rw[z m q h1 d h3 n];have r:∀x,e.fol (YA T h) (YA T m) x=false:=λx=>Rx.fol_lt (Or.inl a)
    have s:e.lst (YA T h) (YA T m)=false:=Rx.lst_lt (Or.inl a);simp only[r,s,dw,dx,dD,g.e0];rcases q with _|x
    .simp only[Option.any_none,dx];cases (Rx.rowOf es).lst (YA T lo) (YA T m)<;>cases e.nul<;>simp
    simp only[Option.any_some,U7,g.e0,g.f x (n x rfl)];cases (Rx.rowOf es).fol (YA T lo) (YA T m) (YA T x)<;>cases (Rx.rowOf es).lst (YA T lo) (YA T m)<;>cases e.nul<;>cases e.fst (YA T h) (YA T x)<;>simp
   have a:=Vr T (show h<=m by omega);rw[g.b m q Qo Qo h3 n,o];have r:∀x,(Rx.rowOf es).fol (YA T lo) (YA T m) x=false:=λx=>Rx.fol_lt (Or.inr (Or.inl Qo))
   have s:(Rx.rowOf es).lst (YA T lo) (YA T m)=false:=Rx.lst_lt (Or.inr Qo);simp only[r,s,dE,dw,dx,dy]
  simp only[Rx.has,p];by_cases d:m<h
  .have a:=Rg h3 d;rw[A m b h1 d h3 n,Rx.has_lt (e:=e) (Or.inl a),dw]
  have a:=Vr T (show h<=m by omega);rw[g.h m b Qo Qo h3 n,Rx.has_lt (e:=Rx.rowOf es) (Or.inr Qo),dx]
def CS.choice{bh:Nat->Option Nat->Bool}(hE:xP T N nl bg bh tl){M:Nat}(hM:(T M).kind=2)
  {lo h:Nat}{ks:List Nat}{es:List Rx} (c:CS T nl bg bh tl lo ks es h):(∀k∈ks,k<N/\(T k).up=(M:Int))->ks≠[] ->
  YA T h=YA T lo+(Wl es).sz/\(Wl es).nul=ks.any nl/\(∀m,(T m).kind=0->ks.any (λk=>bg k m)=(Wl es).fst (YA T lo) (YA T m)) /\
  (∀m q,lo<=m->m<h->(T m).kind=0->(∀x,q=some x->(T x).kind=0)->bh m q=(q.any (λx=>(Wl es).fol (YA T lo) (YA T m) (YA T x)) || ((Wl es).lst (YA T lo) (YA T m)&&bh M q))) /\
  (∀m b,lo<=m->m<h->(T m).kind=0->b<256->(T m).inn b=(Wl es).has (YA T lo) (YA T m) b):=by
 induction c with
 |nil=>intro _ h;exact absurd rfl h
 |snoc c hk g ih=>
  rename_i h k ks es e;intro o _;have w:=c.le;obtain⟨u0,u1⟩:=o k Qs;have n:∀q,bh k q=bh M q:=λq=>hE.bh2 k M q u0 u1 hM
  have l:ks=[]<->es=[]:=by
   cases c with
   |nil=>simp
   |snoc c hk g=>simp
  by_cases j:ks=[]
  .have r:=l.1 j;subst j;subst r;have s:=c.none rfl;subst s;rw[Ms,dF rfl];refine⟨g.c,by simp[g.e0],λm p=>by simp[g.f m p],λm q h1 h2 h3 i=>by rw[g.b m q h1 Qo h3 i,n],λm b h1 h2 h3 i=>g.h m b h1 Qo h3 i⟩
  obtain⟨z,A,B,C,D⟩:=ih (λx y=>o x (by simp[y])) j;rw[Ms,dG (λx=>j (l.2 x))];have t:=z.symm;refine⟨?_,?_,λm p=>?_,λm q h1 h2 h3 i=>?_,λm b h1 h2 h3 i=>?_⟩
  .rw[g.c,Rx.sz];omega
  .simp only[Rx.nul,A,List.any_append,dH,List.any_nil,dw,g.e0]
  .simp only[List.any_append,dH,List.any_nil,dw,Rx.fst,B m p,t,g.f m p]
  .simp only[Rx.fol,Rx.lst,t];by_cases d:m<h
   .have a:=Rg h3 d;rw[C m q h1 d h3 i];have u:∀x,e.fol (YA T h) (YA T m) x=false:=λx=>Rx.fol_lt (Or.inl a)
    have v:e.lst (YA T h) (YA T m)=false:=Rx.lst_lt (Or.inl a);simp only[u,v,dw]
   have a:=Vr T (show h<=m by omega);rw[g.b m q Qo Qo h3 i,n];have u:∀x,(Wl es).fol (YA T lo) (YA T m) x=false:=λx=>Rx.fol_lt (Or.inr (Or.inl Qo))
   have v:(Wl es).lst (YA T lo) (YA T m)=false:=Rx.lst_lt (Or.inr Qo);simp only[u,v,dx]
  simp only[Rx.has,t];by_cases d:m<h
  .have a:=Rg h3 d;rw[D m b h1 d h3 i,Rx.has_lt (e:=e) (Or.inl a),dw]
  have a:=Vr T (show h<=m by omega);rw[g.h m b Qo Qo h3 i,Rx.has_lt (e:=Wl es) (Or.inr Qo),dx]
def Lt(tl:Nat->Ln)(ks:List Nat)(k:Nat):PG tl (ks++[k])=Cc (PG tl ks) (tl k):=by simp[PG]
def CS.lang_row{bh:Nat->Option Nat->Bool}{es:List Rx}(c:CS T nl bg bh tl lo ks es h):PG tl ks=(Rx.rowOf es).Lq:=by
 induction c with
 |nil=>rfl
 |snoc c hk g ih=>rw[Lt,Rx.rowOf_snoc,ih,g.g];rfl
def CS.lang_any{bh:Nat->Option Nat->Bool}{es:List Rx}(c:CS T nl bg bh tl lo ks es h)(w:List Nat):(∃k,k∈ks/\tl k w)<->∃e,e∈es/\Rx.Lq e w:=by
 induction c with
 |nil=>simp
 |@snoc h k ks es e c hk g ih=>
  constructor
  .rintro ⟨x,b,a⟩;rcases ZU.1 b with b|b
   .obtain⟨y,h1,h2⟩:=ih.1 ⟨x,b,a⟩;exact⟨y,by simp[h1],h2⟩
   rw[ZC.1 b,g.g]at a;exact⟨e,Qs,a⟩
  rintro ⟨y,d,a⟩;rcases ZU.1 d with d|d
  .obtain⟨x,h1,h2⟩:=ih.2 ⟨y,d,a⟩;exact⟨x,by simp[h1],h2⟩
  rw[ZC.1 d,<-g.g]at a;exact⟨k,Qs,a⟩
def Hk(w:List Nat):∀(es:List Rx) (a:Rx),(es.foldl .alt a).Lq w<->a.Lq w\/∃e,e∈es/\Rx.Lq e w
 |[],a=>Qs
 |x::es,a=>by
  rw[dr,Hk w es (.alt a x)];show(a.Lq w\/x.Lq w)\/_<->_;simp only[ZR,exists_eq_or_imp,or_assoc]
def A4{es:List Rx}(h:es≠[])(w:List Nat):(Wl es).Lq w<->∃e,e∈es/\Rx.Lq e w:=by
 cases es with
 |nil=>exact absurd rfl h
 |cons x es=>
  rw[Wl,Hk];simp only[ZR,exists_eq_or_imp]
def Fr{a b:Rx}(h:WF a b):(Rx.star a).Lq=(Rx.star b).Lq:=Oi rfl (h.f 0) (h.l 0) (h.o 0) (h.h 0)
def Aq{a b:Rx}(h:WF a b)(z:a.nul=b.nul):(Rx.plus a).Lq=(Rx.plus b).Lq:=Oi z (h.f 0) (h.l 0) (h.o 0) (h.h 0)
def Eq(h:e.nul=true):(Rx.plus e).Lq=(Rx.star e).Lq:=Oi h (λ_=>rfl) (λ_=>rfl) (λ_ _=>rfl) (λ_ _=>rfl)
def Yv(T:Nat->Nd)(N kind:Nat)(kids:List Nat)(inn:Nat->Bool):Nat->Nd:=λi=>
 if i=N then ⟨kind,kids,-1,0,inn⟩ else if i∈kids then { T i with up:=N,at_:=kids.idxOf i } else T i
def YP(T:Nat->Nd)(N kind:Nat)(kids:List Nat)(inn:N_):Yv T N kind kids inn N=⟨kind,kids,-1,0,inn⟩:=by simp[Yv]
def XC(h:i<N):(Yv T N kind kids inn i).kind=(T i).kind/\(Yv T N kind kids inn i).kids=(T i).kids/\(Yv T N kind kids inn i).inn=(T i).inn:=by
 unfold Yv;rw[g_];split<;>exact⟨rfl,rfl,rfl⟩
def WZ(h:i<N)(z:i ∉ kids):Yv T N kind kids inn i=T i:=by
 unfold Yv;rw[g_,dG z]
def Mr(H:kids.Nodup)(z:kids[j]?=some k)(h:k<N):(Yv T N kind kids inn k).up=(N:Int)/\(Yv T N kind kids inn k).at_=j:=by
 unfold Yv;rw[g_,dF (dI z)];refine⟨rfl,?_⟩;let⟨h1,h2⟩:=Zi.1 z;show kids.idxOf k=j;rw[<-h2];exact H.idxOf_getElem j h1
def Wf.add(h:Wf T N)(z:∀k∈kids,k<N):Wf (Yv T N kind kids inn) (N+1):=λi b c a=>by
 by_cases e:i=N
 .subst e;rw[YP]at a;exact z c a
 rw[(XC (show i<N by omega)).2.1]at a;exact h i Qo c a
def FC(T:Nat->Nd)(N:Nat):Prop:=∀i,i<N->(T i).up=-1\/((i:Int)<(T i).up/\(T i).up<N)
def FC.add(h:FC T N):FC (Yv T N kind kids inn) (N+1):=λi a=>by
 unfold Yv;by_cases e:i=N
 .rw[dF e];exact Or.inl rfl
 rw[dG e];split
 .exact Or.inr ⟨by show(i:Int)<N;omega,by show(N:Int)<((N+1:Nat):Int);omega⟩
 have:=h i Qo;omega
def VC(h:n<=N):YA (Yv T N kind kids inn) n=YA T n:=RU n (λi a=>(XC Qo).1)
def Yy.nodup{es:List Rx}(c:Yy T N lo ks es h):ks.Nodup:=by
 induction c with
 |nil=>exact List.nodup_nil
 |snoc c g ih=>
  rename_i h k ks es e;refine List.nodup_append.2 ⟨ih,Qs,λa ha b d=>?_⟩;have h1:=c.le.2.2.1 a ha;have h2:=g.ge;rw[ZC.1 d];omega
def Yy.inv{L:List Nat}{es:List Rx}(c:Yy T N lo L es h):∀ks k,L=ks++[k]->∃es' e h',es=es'++[e]/\h=k+1/\Yy T N lo ks es' h'/\Good T N h' k e:=by
 intro ks k a;cases c with
 |nil=>simp at a
 |snoc c g=>
  let⟨h1,h2⟩:=List.append_inj' a rfl;simp at h2;subst h1;subst h2;exact⟨_,_,_,rfl,rfl,c,g⟩
def Yy.nil_inv{es:List Rx}(c:Yy T N lo [] es h):es=[]/\h=lo:=by
 generalize hz:([]:List Nat)=z at c;cases c with
 |nil=>exact⟨rfl,rfl⟩
 |snoc c g=>simp at hz
def Yy.one{es:List Rx}(c:Yy T N lo [k] es h):∃e,es=[e]/\h=k+1/\Good T N lo k e:=by
 let⟨a,e,d,h1,h2,h3,b⟩:=c.inv [] k rfl;obtain⟨rfl,rfl⟩:=h3.nil_inv;exact⟨e,h1,h2,b⟩
def Yy.two{es:List Rx}(c:Yy T N lo [k,j] es h):∃e f,es=[e,f]/\h=j+1/\Good T N lo k e/\Good T N (k+1) j f:=by
 let⟨a,e,g,h1,h2,h3,b⟩:=c.inv [k] j rfl;obtain⟨e2,rfl,rfl,d⟩:=h3.one;exact⟨e2,e,h1,h2,d,b⟩
structure ST (T:Nat->Nd) (N lo k:Nat) (e:Rx):Prop extends Good T N lo k e where
 br:(T k).kind=1->(T k).kids=[]->e.sz=0/\e.nul=true
def ST.eq(h:ST T N lo k e)(q:XU e e2):ST T N lo k e2:=
 ⟨h.toGood.eq q,λh1 h2=>by let⟨a,b⟩:=h.br h1 h2;exact⟨by rw[<-q.s];exact a,by rw[<-q.n];exact b⟩⟩
def IP(T:Nat->Nd)(N:Nat)(inn:N_):ST (Yv T N 0 [] inn) (N+1) N N (.lit inn):=by
 have a:Vk (Yv T N 0 [] inn) N N (.lit inn):=by
  intro T' N' nl bg bh tl o f e;let⟨k1,p,i⟩:=o.k N (Zg _);rw[YP]at k1 p i;have g:=k1;have l:YA T' (N+1)=YA T' N+1:=by simp[YA,g]
  refine⟨l,e.nl0 N f k1,λm n=>?_,λm q h1 h2 h3 j=>?_,λm b h1 h2 h3 j=>?_,by rw[e.tl0 N f k1,i];rfl⟩
  .rw[e.bg0 N m f k1];simp only[Rx.fst];rcases dJ m N with h|h|h
   .have:=Rg n h;rw[show(N==m)=false by simp;omega,show(YA T' m==YA T' N)=false by simp;omega]
   .subst h;simp
   have:=Vr T' (show N+1<=m from h);rw[show(N==m)=false by simp;omega,show(YA T' m==YA T' N)=false by simp;omega]
  .have:m=N:=Qo
   subst this;simp only[Rx.fol,Rx.lst,dK,dL];cases q<;>simp
  have:m=N:=Qo
  subst this;rw[i];simp[Rx.has]
 refine⟨⟨Qo,Zg _,by simp[YA,YP,Rx.sz],a,N,false,.lit inn,QS.stop (by rw[YP];simp) (by rw[YP];simp) (λc d h=>by rw[YP]at h;cases h),Zg _,Zg _,a,rfl,WF.of (XU.refl _),λ_=>rfl,(λh=>by cases h)⟩,λh=>?_⟩;rw[YP]at h;cases h
def Nr{es:List Rx}(Y:Wf T N)(c:Yy T N lo ks es N):ST (Yv T N 1 ks (λ_=>false)) (N+1) lo N (Rx.rowOf es):=by
 let⟨D,G,L,_⟩:=c.le;have C:=c.nodup;have t:Vk (Yv T N 1 ks (λ_=>false)) lo N (Rx.rowOf es):=by
  intro T' N' nl bg bh tl n y p;let⟨k1,o,_⟩:=n.k N (Zg _);rw[YP]at k1 o;simp only at k1 o;have r:=c.cs (T':=T') (N':=N') (λi E=>by
   let⟨f,l,H⟩:=n.k i Qo;let⟨v,w,I⟩:=XC (T:=T) (kind:=1) (kids:=ks) (inn:=λ_=>false) E;exact⟨f.trans v,l.trans w,H.trans I⟩) (λi h1 h2 h3=>by
   let⟨f,l⟩:=n.u i h1 h2;rw[WZ h2 h3]at f l;exact⟨f,l⟩) Qo p
  let⟨M,O,P,Q,R⟩:=CS.row p k1 o (λj k F=>by
   have B:=L k (dI F);let⟨f,l⟩:=n.u k B.1 B.2;let⟨v,w⟩:=Mr (T:=T) (kind:=1) (inn:=λ_=>false) C F B.2;exact⟨Qo,f.trans v,l.trans w⟩) r [] Qs
  have J:YA T' (N+1)=YA T' N:=by simp[YA,k1]
  refine⟨by rw[J];exact M,by rw[p.nl1 N y (Or.inl k1),o];exact O.symm,λm s=>by rw[p.bg1 N m y k1,o];exact P m s,λm q h1 h2 h3 x=>?_,λm b h1 h2 h3 x=>?_,by rw[p.tl1 N y k1,o];exact r.lang_row⟩
  .have s:m<N:=by
    rcases ZD m N with h|h
    .exact h
    have:m=N:=Qo
    rw[this,k1]at h3;cases h3
   rw[Q m q h1 s h3 x];cases q<;>simp[U7]
  have s:m<N:=by
   rcases ZD m N with h|h
   .exact h
   have:m=N:=Qo
   rw[this,k1]at h3;cases h3
  exact R m b h1 s h3 x
 have A:YA (Yv T N 1 ks (λ_=>false)) (N+1)=YA (Yv T N 1 ks (λ_=>false)) lo+(Rx.rowOf es).sz:=by
  rw[show YA (Yv T N 1 ks (λ_=>false)) (N+1)=YA (Yv T N 1 ks (λ_=>false)) N by simp[YA,YP],VC (Zg _),VC D,Rx.rowOf_sz];exact c.cl
 refine⟨⟨Qo,D,A,t,?_⟩,λ_ h2=>?_⟩
 .by_cases h1:ks.length=1
  .obtain⟨k,rfl⟩:=List.length_eq_one_iff.1 h1;obtain⟨e,rfl,rfl,g⟩:=c.one
   .have n:ET T (Yv T (k+1) 1 [k] (λ_=>false)) lo k:=⟨λi E=>XC Qo,λi a b=>by rw[WZ Qo Qp];exact⟨rfl,rfl⟩⟩;let⟨K,b,e',u1,u2,u3,u4,u5,u6,u7,u8⟩:=(g.ext Y n (by omega:k+1<=k+1+1)).un;refine⟨K,b,e',QS.one (c:=k) (by rw[YP];simp) (by rw[YP]) u1,u2,Qo,u4,?_,u6.trans (WF.of (XU.cat_eps e).symm),λz=>?_,λz=>?_⟩
    .rw[u5];simp[YA,YP]
    .rw[u7 z];simp[Rx.rowOf,Rx.nul]
    simp[Rx.rowOf,Rx.nul,u8 z]
  exact⟨N,false,_,QS.stop (by rw[YP];simp) (by rw[YP];exact h1) (λc d _ h=>by rw[YP]at h;cases h),D,Zg _,t,rfl,WF.of (XU.refl _),λ_=>rfl,λh=>by cases h⟩
 rw[YP]at h2;have:es=[]:=by
  rw[show ks=[] from h2]at G;exact dA G.symm
 subst this;exact⟨rfl,rfl⟩
def Yy.FineL(T:Nat->Nd)(ks:List Nat)(es:List Rx):Prop:=∀(j k:Nat) (e:Rx),ks[j]?=some k->es[j]?=some e->(T k).kind=1->(T k).kids=[]->e.sz=0/\e.nul=true
def A7{a b:Rx}(h:b.sz=0):WF a (.alt a b):=by
 have d:∀o p,b.fst o p=false:=λo p=>Rx.fst_lt Qo
 have e:∀o p,b.lst o p=false:=λo p=>Rx.lst_lt Qo
 have g:∀o p q,b.fol o p q=false:=λo p q=>Rx.fol_lt Qo
 have f:∀o p q,b.has o p q=false:=λo p q=>Rx.has_lt Qo
 exact⟨by simp[Rx.sz,h],λo p=>by simp[Rx.fst,d],λo p=>by simp[Rx.lst,e],λo p q=>by simp[Rx.fol,Rx.lst,Rx.fst,d,e,g],λo p c=>by simp[Rx.has,f]⟩
def OK{es:List Rx}(hw:Wf T N)(c:Yy T N lo ks es N)(hf:Yy.FineL T ks es)(aa:ks≠[]):ST (Yv T N 2 ks (λ_=>false)) (N+1) lo N (Wl es):=by
 let⟨K,P,Q,_⟩:=c.le;have H:=c.nodup;have A:Vk (Yv T N 2 ks (λ_=>false)) lo N (Wl es):=by
  intro T' N' nl bg bh tl f D s;let⟨k1,B,_⟩:=f.k N (Zg _);rw[YP]at k1 B;simp only at k1 B;have x:=c.cs (T':=T') (N':=N') (λi F=>by
   let⟨n,r,R⟩:=f.k i Qo;let⟨C,O,S⟩:=XC (T:=T) (kind:=2) (kids:=ks) (inn:=λ_=>false) F;exact⟨n.trans C,r.trans O,R.trans S⟩) (λi h1 h2 h3=>by
   let⟨n,r⟩:=f.u i h1 h2;rw[WZ h2 h3]at n r;exact⟨n,r⟩) Qo s
  let⟨Y,Z,r3,r4,r5⟩:=CS.choice s k1 x (λk y=>by
   obtain⟨j,X,rfl⟩:=List.mem_iff_getElem.1 y;have G:=Q _ y;let⟨n,r⟩:=f.u _ G.1 G.2;let⟨C,O⟩:=Mr (T:=T) (kind:=2) (inn:=λ_=>false) H (Zd X) G.2;exact⟨Qo,n.trans C⟩) aa
  have U:YA T' (N+1)=YA T' N:=by simp[YA,k1]
  refine⟨by rw[U];exact Y,by rw[s.nl2 N D k1,B];exact Z.symm,λm z=>by rw[s.bg2 N m D (Or.inl k1),B];exact r3 m z,λm q h1 h2 h3 o=>?_,λm b h1 h2 h3 o=>?_,Ge λw=>by rw[s.tl2 N D k1 w,B,x.lang_any w,A4 (λe=>aa (by rw[e]at P;exact dA P))]⟩
  .have z:m<N:=by
    rcases ZD m N with h|h
    .exact h
    have:m=N:=Qo
    rw[this,k1]at h3;cases h3
   exact r4 m q h1 z h3 o
  have z:m<N:=by
   rcases ZD m N with h|h
   .exact h
   have:m=N:=Qo
   rw[this,k1]at h3;cases h3
  exact r5 m b h1 z h3 o
 have E:YA (Yv T N 2 ks (λ_=>false)) (N+1)=YA (Yv T N 2 ks (λ_=>false)) lo+(Wl es).sz:=by
  rw[show YA (Yv T N 2 ks (λ_=>false)) (N+1)=YA (Yv T N 2 ks (λ_=>false)) N by simp[YA,YP],VC (Zg _),VC K,A5];exact c.cl
 refine⟨⟨Qo,K,E,A,?_⟩,λh=>by rw[YP]at h;cases h⟩;by_cases h1:ks.length=1
 .obtain⟨k,rfl⟩:=List.length_eq_one_iff.1 h1;obtain⟨e,rfl,rfl,g⟩:=c.one
  .have f:ET T (Yv T (k+1) 2 [k] (λ_=>false)) lo k:=⟨λi F=>XC Qo,λi a b=>by rw[WZ Qo Qp];exact⟨rfl,rfl⟩⟩;let⟨J,b,e',u1,u2,u3,u4,u5,u6,u7,u8⟩:=(g.ext hw f (by omega:k+1<=k+1+1)).un;refine⟨J,b,e',QS.one (c:=k) (by rw[YP];simp) (by rw[YP]) u1,u2,Qo,u4,?_,u6,u7,u8⟩;rw[u5];simp[YA,YP]
 by_cases h2:∃c d,ks=[c,d]/\(T d).kind=1/\(T d).kids=[]
 .let⟨p,k,I,t,v⟩:=h2;subst I;obtain⟨e0,e,rfl,rfl,g1,g⟩:=c.two
  ··
    let⟨s1,s2⟩:=hf 1 k e rfl rfl t v;have W:=g.ge;have f:ET T (Yv T (k+1) 2 [p,k] (λ_=>false)) lo p:=⟨λi F=>XC Qo,λi a b=>by rw[WZ Qo Qp];exact⟨rfl,rfl⟩⟩;let⟨J,b,e',u1,u2,u3,u4,u5,u6,u7,u8⟩:=(g1.ext hw f (by omega:k+1<=k+1+1)).un;let⟨L,M,_⟩:=XC (T:=T) (kind:=2) (kids:=[p,k]) (inn:=λ_=>false) (show k<k+1 by omega);refine⟨J,true,e',QS.may (c:=p) (d:=k) (by rw[YP]) (by rw[YP]) (by rw[L];exact t) (by rw[M];exact v) u1,u2,Qo,u4,?_,?_,(λh=>by cases h),λ_=>?_⟩
    .-- no letter stands behind the first kid
     rw[u5];have l:YA (Yv T (k+1) 2 [p,k] (λ_=>false)) (k+1+1)=YA (Yv T (k+1) 2 [p,k] (λ_=>false)) (k+1):=by
      rw[YA,YP];rfl
     rw[l,VC Qo,VC Qo];have:=g.cl;omega
    .exact u6.trans (A7 s1)
    show(Rx.alt e0 e).nul=true;simp[Rx.nul,s2]
 exact⟨N,false,_,QS.stop (by rw[YP];simp) (by rw[YP];exact h1) (λa d h3 _ o=>h2 (by
  rw[YP]at h3;have V:=Q d (by rw[show ks=[a,d] from h3];simp);let⟨L,M,_⟩:=XC (T:=T) (kind:=2) (kids:=ks) (inn:=λ_=>false) V.2;exact⟨a,d,h3,by rw[<-L];exact o.1,by rw[<-M];exact o.2⟩)),K,Zg _,A,rfl,WF.of (XU.refl _),λ_=>rfl,λh=>by cases h⟩
def QS.last{z:Nat}{b:Bool}(h:QS T k z b):QS T z z false:=by
 induction h with
 |stop h1 h2 h3=>exact QS.stop h1 h2 h3
 |star h1 h2 h ih=>exact ih
 |one h1 h2 h ih=>exact ih
 |may h1 h2 h3 h4 h ih=>exact ih
def Ea(hw:Wf T (k+1))(g:Good T (k+1) lo k e)(st:Bool):∃k' b,QS T k k' b/\k'<=k/\lo<=k'/\ST (Yv T (k+1) (if st || b then 3 else 4) [k'] (λ_=>false)) (k+1+1) lo (k+1) (if st then .star e else .plus e):=by
 let⟨k',b,e',u1,u2,u3,u4,u5,u6,u7,u8⟩:=g.un;refine⟨k',b,u1,u3,u2,?_⟩;let⟨kd,w⟩:=nam ((if st || b then 3 else 4));rw[<-w];have d:kd=3\/kd=4:=by rw[w];split<;>simp
 let⟨E,r⟩:=nam ((if st then Rx.star e else .plus e));rw[<-r];have A:∀o p,E.fst o p=e.fst o p:=λo p=>by rw[r];split<;>rfl
 have t:∀o p,E.lst o p=e.lst o p:=λo p=>by rw[r];split<;>rfl
 have F:∀o p q,E.fol o p q=(e.fol o p q || (e.lst o p&&e.fst o q)):=λo p q=>by rw[r];split<;>rfl
 have D:∀o p c,E.has o p c=e.has o p c:=λo p c=>by rw[r];split<;>rfl
 have B:E.sz=e.sz:=by rw[r];split<;>rfl
 have v:(kd=3->E.nul=true)/\(kd=4->e'.nul=E.nul):=by
  rw[r,w];cases st
  .cases b
   .exact⟨λh=>by simp at h,λ_=>u7 rfl⟩
   exact⟨λ_=>u8 rfl,λh=>by simp at h⟩
  exact⟨λ_=>rfl,λh=>by simp at h⟩
 have G:(kd=3->E.Lq=St e'.Lq)/\(kd=4->E.Lq=Cc e'.Lq (St e'.Lq)):=by
  rw[r,w];cases st
  .cases b
   .exact⟨λh=>by simp at h,λ_=>(Aq u6 (u7 rfl)).symm⟩
   exact⟨λ_=>(Eq (u8 rfl)).trans (Fr u6).symm,λh=>by simp at h⟩
  exact⟨λ_=>(Fr u6).symm,λh=>by simp at h⟩
 have K:ET T (Yv T (k+1) kd [k'] (λ_=>false)) lo k':=⟨λi W=>XC Qo,λi a b=>by rw[WZ Qo Qp];exact⟨rfl,rfl⟩⟩;have hz:YA (Yv T (k+1) kd [k'] (λ_=>false)) (k+1+1)=YA (Yv T (k+1) kd [k'] (λ_=>false)) (k+1):=by
  rw[YA,YP];rcases d with h|h<;>simp[h]
 have S:Vk (Yv T (k+1) kd [k'] (λ_=>false)) lo (k+1) E:=by
  intro T' N' nl bg bh tl N H z;let⟨k1,C,_⟩:=N.k (k+1) (Zg _);rw[YP]at k1 C;simp only at k1 C;have y:=(u4.ext K) T' N' nl bg bh tl (N.mono (Zg _) Qo) Qo z;have I:∀n,n<=k+1->YA T' n=YA T n:=λn hn=>RU n (λi W=>by rw[(N.k i Qo).1];exact(XC Qo).1)
  have X:YA T' (k+1+1)=YA T' (k+1):=by
   rw[YA,k1];rcases d with h|h<;>simp[h]
  have P:YA T' (k'+1)=YA T' (k+1):=by rw[I _ Qo,I _ Qo];exact u5
  have U:(T' k').up=((k+1:Nat):Int):=by
   rw[(N.u k' u2 Qo).1];exact(Mr (T:=T) (kind:=kd) (inn:=λ_=>false) (j:=0) Qs rfl Qo).1
  have O:∀q,bh k' q=(q.any (λm=>bg k' m) || bh (k+1) q):=λq=>z.bh3 k' (k+1) q Qo U (by rw[k1];exact d)
  have J:∀m,m<=k+1->(T' m).kind=0->m<=k':=λm h1 h2=>by
   rcases ZD k' m with h|h
   .exfalso;by_cases e:m=k+1
    .rw[e,k1]at h2;omega
    have Z:=Rg h2 (show m<k+1 by omega);have a2:=Vr T' (show k'+1<=m from h);omega
   exact h
  refine⟨by rw[X,<-P,y.c,B,u6.s],?_,λm Y=>?_,λm q h1 h2 h3 L=>?_,λm b h1 h2 h3 L=>?_,?_⟩
  .rcases d with h|h
   .rw[z.nl3 _ H (by rw[k1];exact h),v.1 h]
   rw[z.nl1 _ H (Or.inr (by rw[k1];exact h)),C];simp only[dD,List.all_nil,Bool.and_true];rw[y.e0];exact v.2 h
  .rw[z.bg2 _ m H (Or.inr (by rw[k1];exact d)),C];simp only[dH,List.any_nil,dw];rw[y.f m Y,u6.f,A]
  .rw[y.b m q h1 (J m h2 h3) h3 L,O];rcases q with _|x
   .simp only[Option.any_none,dx,t,u6.l]
   simp only[Option.any_some,t,F,y.f x (L x rfl)];rw[<-u6.o,u6.l];cases e'.fol (YA T' lo) (YA T' m) (YA T' x)<;>cases e.lst (YA T' lo) (YA T' m)<;>cases e'.fst (YA T' lo) (YA T' x)<;>simp
  .rw[y.h m b h1 (J m h2 h3) h3 L,D,u6.h]
  rcases d with h|h
  .rw[z.tl3 _ k' H (by rw[k1];exact h) C,y.g,G.1 h]
  rw[z.tl4 _ k' H (by rw[k1];exact h) C,y.g,G.2 h]
 have R:WF e' E:=⟨by rw[B];exact u6.s,λo p=>by rw[A];exact u6.f o p,λo p=>by rw[t];exact u6.l o p,λo p q=>by
  rw[u6.o,F,t,A];cases e.fol o p q<;>cases e.lst o p<;>cases e.fst o q<;>rfl,λo p c=>by rw[D];exact u6.h o p c⟩
 have Q:YA (Yv T (k+1) kd [k'] (λ_=>false)) (k'+1)=YA (Yv T (k+1) kd [k'] (λ_=>false)) (k+1+1):=by
  rw[hz,VC Qo,VC Qo];exact u5
 refine⟨⟨Qo,by have:=g.ge;omega,?_,S,k',kd==3,e',?_,u2,Qo,u4.ext K,Q,R,λM=>?_,λM=>?_⟩,λh=>?_⟩
 .rw[hz,VC Qo,VC (by have:=g.ge;omega),g.cl,B]
 .have V:QS (Yv T (k+1) kd [k'] (λ_=>false)) k' k' false:=u1.last.ext hw Qo (λi W=>⟨(XC Qo).1,(XC Qo).2.1⟩);rcases d with h|h
  .subst h;exact QS.star (by rw[YP]) (by rw[YP]) V
  subst h;exact QS.one (b:=false) (by rw[YP];simp) (by rw[YP]) V
 .rcases d with h|h
  .rw[h]at M;cases M
  exact v.2 h
 .exact v.1 (by simpa using M)
 rw[YP]at h;simp only at h;omega
def Fg(T:Nat->Nd):Nat->Nat->Bool
 |0,_=>false
 |f+1,n=>if (T n).kind=0 then false else if (T n).kind=3 then true else if (T n).kind=2 then (T n).kids.any (Fg T f) else (T n).kids.all (Fg T f)
def RP{l:List Nat}{f g:N_}(h:∀k∈l,f k=g k):l.any f=l.any g:=by
 induction l with
 |nil=>rfl
 |cons x l ih=>rw[dH,dH,h x Qs,ih (λk a=>h k (by simp[a]))]
def KU{l:List Nat}{f g:N_}(h:∀k∈l,f k=g k):l.all f=l.all g:=by
 induction l with
 |nil=>rfl
 |cons x l ih=>rw[dD,dD,h x Qs,ih (λk a=>h k (by simp[a]))]
def Np{l:List Nat}{b c e f:N_}(h:∀k∈l,b k=c k/\e k=f k):U7 b e l=U7 c f l:=by
 induction l with
 |nil=>rfl
 |cons x l ih=>rw[U7,U7,(h x Qs).1,(h x Qs).2,ih (λk a=>h k (by simp[a]))]
def yL(z:Wf T N):∀(n f g:Nat),n<N->n<f->n<g->Fg T f n=Fg T g n:=by
 intro n
 induction n using Nat.strongRecOn with
 |_ n ih=>
  intro f g b c d;obtain⟨f,rfl⟩:∃q,f=q+1:=⟨f-1,Qo⟩;obtain⟨g,rfl⟩:∃q,g=q+1:=⟨g-1,Qo⟩;have a:∀k∈(T n).kids,Fg T f k=Fg T g k:=λk a=>by
   have:=z n b k a;exact ih k this f g Qo Qo Qo
  simp only[Fg];rw[RP a,KU a]
def Do(T:Nat->Nd):Nat->Nat->Nat->Bool
 |0,_,_=>false
 |f+1,n,m=>if (T n).kind=0 then n==m else if (T n).kind=1 then U7 (λk=>Do T f k m) (λk=>Fg T (k+1) k) (T n).kids else (T n).kids.any (λk=>Do T f k m)
def yA(z:Wf T N)(m:Nat):∀(n f g:Nat),n<N->n<f->n<g->Do T f n m=Do T g n m:=by
 intro n
 induction n using Nat.strongRecOn with
 |_ n ih=>
  intro f g c d e;obtain⟨f,rfl⟩:∃q,f=q+1:=⟨f-1,Qo⟩;obtain⟨g,rfl⟩:∃q,g=q+1:=⟨g-1,Qo⟩;have a:∀k∈(T n).kids,Do T f k m=Do T g k m:=λk a=>by
   have:=z n c k a;exact ih k this f g Qo Qo Qo
  simp only[Do];rw[RP a,Np (λk b=>⟨a k b,rfl⟩)]
def L7(T:Nat->Nd):Nat->Nat->Ln
 |0,_=>No
 |f+1,n=>if (T n).kind=0 then Li (T n).inn else if (T n).kind=1 then PG (L7 T f) (T n).kids else if (T n).kind=2 then (λw=>∃c,c∈(T n).kids/\L7 T f c w)
  else match (T n).kids with
   |[c]=>if (T n).kind=3 then St (L7 T f c) else Cc (L7 T f c) (St (L7 T f c))
   |_=>No
def Nq{f g:Nat->Ln}{l:List Nat}(h:∀k∈l,f k=g k):PG f l=PG g l:=by
 unfold PG;generalize Ep=L
 induction l generalizing L with
 |nil=>rfl
 |cons x l ih=>rw[dr,dr,h x Qs];exact ih (λk a=>h k (by simp[a])) _
def y8(z:Wf T N):∀(n f g:Nat),n<N->n<f->n<g->L7 T f n=L7 T g n:=by
 intro n
 induction n using Nat.strongRecOn with
 |_ n ih=>
  intro f g h i j;obtain⟨f,rfl⟩:∃q,f=q+1:=⟨f-1,Qo⟩;obtain⟨g,rfl⟩:∃q,g=q+1:=⟨g-1,Qo⟩;have e:∀k∈(T n).kids,L7 T f k=L7 T g k:=λk e=>by
   have:=z n h k e;exact ih k this f g Qo Qo Qo
  simp only[L7];rw[Nq e];have h2:(λw=>∃c,c∈(T n).kids/\L7 T f c w)=(λw=>∃c,c∈(T n).kids/\L7 T g c w):=Ge λw=>by
   constructor
   .rintro ⟨c,a,b⟩;exact⟨c,a,by rw[<-e c a];exact b⟩
   rintro ⟨c,a,b⟩;exact⟨c,a,by rw[e c a];exact b⟩
  rw[h2];rcases hq:(T n).kids with _|⟨c,_|⟨d,r⟩⟩
  .rfl
  .simp only;rw[e c (by rw[hq];simp)]
  rfl
def EK(T:Nat->Nd)(n:Nat):Ln:=L7 T (n+1) n
def Wj(T:Nat->Nd)(n:Nat):Bool:=Fg T (n+1) n
def UF(T:Nat->Nd)(n m:Nat):Bool:=Do T (n+1) n m
def EZ(T:Nat->Nd):Nat->Nat->Option Nat->Bool
 |0,_,_=>false
 |f+1,n,q=>
  if (T n).up<0 then q==none
  else if (T (T n).up.toNat).kind=1 then (q.any (λm=>U7 (λk=>UF T k m) (Wj T) ((T (T n).up.toNat).kids.drop ((T n).at_+1))) || (((T (T n).up.toNat).kids.drop ((T n).at_+1)).all (Wj T)&&EZ T f (T n).up.toNat q))
  else if (T (T n).up.toNat).kind=3\/(T (T n).up.toNat).kind=4 then (q.any (λm=>UF T n m) || EZ T f (T n).up.toNat q)
  else EZ T f (T n).up.toNat q
def Bb(z:FC T N)(q:Option Nat):∀(d n f g:Nat),N-n<=d->n<N->N<f+n+1->N<g+n+1->EZ T f n q=EZ T g n q:=by
 intro d
 induction d with
 |zero=>intro n f g h1 h2;omega
 |succ d ih=>
  intro n f g h1 a b c;obtain⟨f,rfl⟩:∃q,f=q+1:=⟨f-1,Qo⟩;obtain⟨g,rfl⟩:∃q,g=q+1:=⟨g-1,Qo⟩;simp only[EZ];by_cases h0:(T n).up<0
  .rw[dF h0,dF h0]
  rw[dG h0,dG h0];have h:=z n a;have e:EZ T f (T n).up.toNat q=EZ T g (T n).up.toNat q:=ih _ f g Qo Qo Qo Qo;rw[e]
def Me(T:Nat->Nd)(N n:Nat)(q:Option Nat):Bool:=EZ T (N-n) n q
def V4(z:Wf T N)(H:FC T N):xP T N (Wj T) (UF T) (Me T N) (EK T):=by
 have kn:∀n,n<N->∀k∈(T n).kids,Fg T n k=Wj T k:=λn d k f=>by
  have:=z n d k f;exact yL z k n (k+1) Qo this Qo
 have i:∀m n,n<N->∀k∈(T n).kids,Do T n k m=UF T k m:=λm n d k f=>by
  have:=z n d k f;exact yA z m k n (k+1) Qo this Qo
 have kl:∀n,n<N->∀k∈(T n).kids,L7 T n k=EK T k:=λn d k f=>by
  have:=z n d k f;exact y8 z k n (k+1) Qo this Qo
 have g:∀n u q,n<N->(T n).up=((u:Nat):Int)->n<u/\u<N/\Me T N n q=(if (T u).kind=1 then (q.any (λm=>U7 (λk=>UF T k m) (Wj T) ((T u).kids.drop ((T n).at_+1))) || (((T u).kids.drop ((T n).at_+1)).all (Wj T)&&Me T N u q))
  else if (T u).kind=3\/(T u).kind=4 then (q.any (λm=>UF T n m) || Me T N u q) else Me T N u q):=λn u q d j=>by
  have l:=H n d;have h1:n<u/\u<N:=Qo
  refine⟨h1.1,h1.2,?_⟩;have e:EZ T (N-n-1) u q=Me T N u q:=Bb H q N u _ _ Qo h1.2 Qo Qo;unfold Me;rw[show N-n=(N-n-1)+1 by omega];simp only[EZ];rw[g_,j,ZE,e];rfl
 refine⟨λn _ h=>?_,λn d h=>?_,λn d h=>?_,λn _ h=>?_,λn m _ h=>?_,λn m d h=>?_,λn m d h=>?_,λn q d h=>?_,λn u q d h1 h2=>?_,λn u q d h1 h2=>?_,λn u q d h1 h2=>?_,λn d h=>?_,λn d h=>?_,λn d h w=>?_,λn c d h h2=>?_,λn c d h h2=>?_⟩
 .simp[Wj,Fg,h]
 .unfold Wj;rw[Fg,g_,g_,g_];exact KU (kn n d)
 .unfold Wj;rw[Fg,g_,g_,dF h];exact RP (kn n d)
 .simp[Wj,Fg,h]
 .simp[UF,Do,h]
 .unfold UF;rw[Do,g_,dF h];exact Np (λk f=>⟨i m n d k f,rfl⟩)
 .unfold UF;rw[Do,g_,g_];exact RP (i m n d)
 .unfold Me;rw[show N-n=(N-n-1)+1 by omega];simp only[EZ];rw[dF h]
 .let⟨_,_,e⟩:=g n u q d h1;rw[e,dF h2]
 .let⟨_,_,e⟩:=g n u q d h1;rw[e,g_,g_]
 .let⟨_,_,e⟩:=g n u q d h1;rw[e,g_,dF h2]
 .simp[EK,L7,h]
 .unfold EK;rw[L7,g_,dF h];exact Nq (kl n d)
 .unfold EK;rw[L7,g_,g_,dF h];constructor
  .rintro ⟨c,a,b⟩;exact⟨c,a,by rw[kl n d c a]at b;exact b⟩
  rintro ⟨c,a,b⟩;exact⟨c,a,by rw[kl n d c a];exact b⟩
 .have e:=kl n d c (by rw[h2];simp);show L7 T (n+1) n=_;rw[L7,g_,g_,g_,h2];simp only[dF h,e]
 have e:=kl n d c (by rw[h2];simp);show L7 T (n+1) n=_;rw[L7,g_,g_,g_,h2];simp only[dG (show ¬(T n).kind=3 by omega),e]
def Dd(H:Wf T (k+1))(z:FC T (k+1))(g:Good T (k+1) 0 k e):
  YA T (k+1)=e.sz/\Wj T k=e.nul/\(∀m,(T m).kind=0->UF T k m=e.fst 0 (YA T m)) /\
  (∀m q,m<=k->(T m).kind=0->(∀x,q=some x->(T x).kind=0)->Me T (k+1) m q=(q.any (λx=>e.fol 0 (YA T m) (YA T x)) || (e.lst 0 (YA T m)&&Me T (k+1) k q))) /\
  (∀m b,m<=k->(T m).kind=0->b<256->(T m).inn b=e.has 0 (YA T m) b):=by
 have a:=g.st T (k+1) (Wj T) (UF T) (Me T (k+1)) (EK T) ⟨λi _=>⟨rfl,rfl,rfl⟩,λi _ _=>⟨rfl,rfl⟩⟩ Qo (V4 H z);refine⟨?_,a.e0,a.f,λm q h=>a.b m q (dM _) h,λm b h=>a.h m b (dM _) h⟩;have:=a.c;simpa[YA]using this
def EN(H:Wf T (k+1))(z:FC T (k+1))(g:Good T (k+1) 0 k e):EK T k=e.Lq:=
 (g.st T (k+1) (Wj T) (UF T) (Me T (k+1)) (EK T) ⟨λi _=>⟨rfl,rfl,rfl⟩,λi _ _=>⟨rfl,rfl⟩⟩ Qo (V4 H z)).g
structure Md (T:Nat->Nd) (N:Nat):Prop where
 w:Wf T N
 u:FC T N
 k:∀i,i<N->(T i).kind<=4/\(T i).kids.length<=1000
 a:∀i,i<N->(T i).at_<=1000
 o:∀i,i<N->3<=(T i).kind->(T i).kids.length=1
def Md.zero(T:Nat->Nd):Md T 0:=⟨λi a=>Qo,λi a=>Qo,λi a=>Qo,λi a=>Qo,λi a=>Qo⟩
def Md.add(h:Md T N)(H:∀k∈kids,k<N)(z:kind<=4)(J:kids.length<=1000)(Y:3<=kind->kids.length=1:=by first|(intro h;omega)|(intro h;rfl)):Md (Yv T N kind kids inn) (N+1):=
 ⟨h.w.add H,h.u.add,λi c=>by
  by_cases e:i=N
  .subst e;rw[YP];exact⟨z,J⟩
  .let⟨a,b,_⟩:=XC (T:=T) (kind:=kind) (kids:=kids) (inn:=inn) (show i<N by omega);rw[a,b];exact h.k i Qo,λi c=>by
  unfold Yv;by_cases e:i=N
  .rw[dF e];exact dM _
  .rw[dG e];split
   .show kids.idxOf i<=1000;have:=List.idxOf_le_length (l:=kids) (a:=i);omega
   exact h.a i Qo,λi c=>by
  by_cases e:i=N
  .subst e;rw[YP];exact Y
  let⟨a,b,_⟩:=XC (T:=T) (kind:=kind) (kids:=kids) (inn:=inn) (show i<N by omega);rw[a,b];exact h.o i Qo⟩
def Yy.more{es:List Rx}(H:Wf T N)(c:Yy T N lo ks es N)(z:∀i,i<N->T' i=T i)(g:ST T' (n+1) N n e):Yy T' (n+1) lo (ks++[n]) (es++[e]) (n+1):=
 Yy.snoc (c.ext H (λi a=>by rw[z i a];exact⟨rfl,rfl,rfl⟩) (λi _ a _=>by rw[z i a];exact⟨rfl,rfl⟩) (by have:=g.ge;omega)) g.toGood
def ML{es:List Rx}(H:∀k∈ks,k<N)(J:ks.length=es.length)(h:Yy.FineL T ks es)(z:∀i,i<N->T' i=T i)(g:ST T' (n+1) N n e):Yy.FineL T' (ks++[n]) (es++[e]):=λj k x h1 h2 h3 a=>by
 by_cases d:j<ks.length
 .rw[Zv d]at h1;rw[Zv Qo]at h2;rw[z k (H k (dI h1))]at h3 a;exact h j k x h1 h2 h3 a
 have c:=(Zi.1 h1).1;simp only[Zl,dN]at c;have b:j=ks.length:=Qo
 subst b;rw[ZG Qo,Nat.sub_self]at h1;rw[J,ZG Qo,Nat.sub_self]at h2;simp only[dO,Zp]at h1 h2;subst h1;subst h2;exact g.br h3 a
def In(T:Nat->Nd)(N:Nat)(z:Wf T N):ST (Yv T N 1 [] (λ_=>false)) (N+1) N N .eps:=Nr z (Yy.nil N)
variable {e0:Rx}
def Cu{a:Nat}(z:Wf T (a+1))(g:ST T (a+1) lo a e0):ST (Yv (Yv T (a+1) 1 [] (λ_=>false)) (a+1+1) 2 [a,a+1] (λ_=>false)) (a+1+1+1) lo (a+1+1) (.opt e0):=by
 have b:Wf (Yv T (a+1) 1 [] (λ_=>false)) (a+1+1):=z.add Qs;have c:=Yy.snoc (Yy.nil lo) g.toGood;have g2:=In T (a+1) z;have d:∀i,i<a+1->Yv T (a+1) 1 [] (λ_=>false) i=T i:=λi l=>WZ l Qs
 have c2:=c.more z d g2;have e:Yy.FineL T [a] [e0]:=λj k x h1 h2 h3 h=>by
  rcases j with _|j
  .simp only[dO,Zp]at h1 h2;subst h1;subst h2;exact g.br h3 h
  simp at h1
 have f:Yy.FineL (Yv T (a+1) 1 [] (λ_=>false)) [a,a+1] [e0,.eps]:=ML (N:=a+1) Qs rfl e d g2;exact(OK b c2 f Qs).eq (XU.opt_alt e0)
def WB(L P:Nat):Nat:=3*(L*max P 1)
def J5{L:Nat}(h:1<=L):3<=WB L P:=by
 unfold WB;have h1:1<=max P 1:=Qo
 have:1*1<=L*max P 1:=dP h h1;omega
def Oj{L:Nat}(h:1<=t):WB L P+2<=WB (L+t) P:=by
 unfold WB;have h1:1<=max P 1:=Qo
 have h2:=dP h h1;rw[dQ];omega
def Ci{L Q:Nat}(h:P<=Q):WB L P<=WB L Q:=by
 unfold WB;have:L*max P 1<=L*max Q 1:=dR _ Qo;omega
def Qt(L K P:Nat):WB (L+K) P=WB L P+WB K P:=by
 unfold WB;rw[dQ];omega
def Eh{L:Nat}(J:3<=t)(z:1<=P)(H:1<=n):n*(WB L P+2)+1<=WB (L+t) (n*P):=by
 unfold WB;have h0:=dP H z;have a:max P 1=P:=Qo
 have e2:max (n*P) 1=n*P:=Qo
 rw[a,e2];have h3:=dR n z;have c:3*(n*P)<=t*(n*P):=ZQ _ J;have b:n*(3*(L*P)+2)=3*(L*(n*P))+2*n:=by
  rw[Nat.mul_add];have:n*(3*(L*P))=3*(L*(n*P)):=by
   rw[Nat.mul_left_comm n 3,Nat.mul_left_comm n L]
  omega
 rw[b,dQ];omega
def y7{l:List Rx}(h:e∈l):e.sz<=(l.map Rx.sz).sum:=by
 induction l with
 |nil=>simp at h
 |cons x l ih=>
  simp only[dt,List.sum_cons];rcases ZR.1 h with rfl|h
  .omega
  have:=ih h;omega
def Qm(s:ByteArray)(k:Nat)(h:k<s.size):s[k]=s.data.toList.getD k 0:=by
 have a:k<s.data.toList.length:=by simpa using h
 rw[Zf,Zd a];rfl
def RX(s:ByteArray)(k:Nat)(h:k<s.size):s.data.toList.drop k=s[k]::s.data.toList.drop (k+1):=by
 rw[dS (by simpa using h)];rfl
def Y2{k:IntKind}{a b:Int}(h:a=b):Ending.returned (.int k a)=.returned (.int k b):=by rw[h]
def YM{a b:Bool}(h:a=b):Ending.returned (.bool a)=.returned (.bool b):=by rw[h]
namespace Rf
def iT(c:Int):Bool:=decide (48<=c)&&decide (c<=57)
def hex(c:Int):Bool:=iT c || (decide (97<=c)&&decide (c<=102))
def has:List UInt8->Int->Bool
 |[],_=>false
 |x::r,c=>((x.toNat:Int)==c) || has r c
def iX(c:Int):Int:=if iT c then c-48 else c-97+10
def i5(c:Int)(h:hex c=true):0<=iX c/\iX c<16:=by
 unfold iX;cases hd:iT c
 .have:97<=c/\c<=102:=by simpa[hex,hd]using h
  simp;omega
 have:48<=c/\c<=57:=by simpa[iT]using hd
 simp;omega
structure RS where
 ok:Bool
 m:Int
 bk:Int
 o:Int
def marks:List UInt8:=[92,46,91,93,40,41,123,125,124,42,43,63,94,45]
def notInner:List UInt8:=[91,93,94,45]
def to(m bk o:Int)(ok:Bool)(m':Int):RS:=⟨ok,if ok then m' else m,bk,o⟩
def jx(m bk o c m':Int):RS:=if c=92 then ⟨true,2,m',o⟩ else to m bk o (!has notInner c) m'
def jo(m bk o c:Int):RS:=
 if c=92 then ⟨true,2,1,o⟩
 else if c=91 then ⟨true,9,bk,o⟩
 else if c=40 then ⟨true,0,bk,o+1⟩
 else if c=41 then to m bk (o-1) (decide (1<=o)) 1
 else if c=124 then ⟨true,0,bk,o⟩
 else if c=42\/c=43\/c=63 then ⟨m==1,m,bk,o⟩
 else if c=123 then to m bk o (m==1) 5
 else if c=93\/c=125 then ⟨false,m,bk,o⟩
 else ⟨true,1,bk,o⟩
def rest(m bk o c:Int):RS:=
 if m=9 then (if c=94 then ⟨true,10,bk,o⟩ else jx m bk o c 11)
 else if m=10 then jx m bk o c 11
 else if m=11 then (if c=45 then ⟨true,12,bk,o⟩ else if c=93 then ⟨true,1,bk,o⟩ else jx m bk o c 11)
 else if m=12 then jx m bk o c 13
 else if m=13 then (if c=93 then ⟨true,1,bk,o⟩ else jx m bk o c 11)
 else jo m bk o c
def read(m bk o c:Int):RS:=
 if m=2 then (if c=120 then ⟨true,3,bk,o⟩ else to m bk o (c==110 || c==116 || has marks c) bk)
 else if m=3 then to m bk o (hex c) 4
 else if m=4 then to m bk o (hex c) bk
 else if m=5 then to m bk o (iT c) 6
 else if m=6 then (if c=44 then ⟨true,7,bk,o⟩ else to m bk o (c==125) 1)
 else if m=7 then to m bk o (iT c) 8
 else if m=8 then to m bk o (c==125) 1
 else rest m bk o c
def jt(m bk o:Int)(i:Nat):List UInt8->Int
 |[]=>if 0<o\/1<m then i else -1
 |c::r=>let x:=read m bk o c.toNat;if x.ok then jt x.m x.bk x.o (i+1) r else i
def form(l:List UInt8):Int:=jt 0 0 0 0 l
def i6(m bk o:Int)(i:Nat):List UInt8->Int
 |[]=>-1
 |c::r=>let x:=read m bk o c.toNat;if 6<x.o then i else i6 x.m x.bk x.o (i+1) r
def deep(l:List UInt8):Int:=i6 0 0 0 0 l
end Rf
open Go.RowKit
def YT{c:UInt8}{r:List UInt8}(h:s.data.toList.drop k=c::r):∃hk:k<s.size,s[k]=c/\s.data.toList.drop (k+1)=r:=by
 have hk:k<s.size:=by
  rcases ZD k s.size with a|a
  .exact a
  rw[dT (by simpa using a)]at h;cases h
 refine⟨hk,?_⟩;rw[RX s k hk]at h;injection h with h1 h2;exact⟨h1,h2⟩
def Yl{c d:UInt8}(h:c≠d):((c.toNat:Int)==(d.toNat:Int))=false:=by
 rw[dU];intro a;exact h (dV.1 Qo)
def Qe(c:UInt8):(c.toNat:Int)<256:=by have:=c.toNat_lt;omega
def Pq(c:UInt8):wrap64 (c.toNat:Int)=c.toNat:=by
 have:=c.toNat_lt;unfold wrap64;omega
namespace Rf
def one:List UInt8->Option (Int × Nat)
 |[]=>none
 |c::r=>
  if c=92 then
   match r with
   |[]=>none
   |d::r'=>
    if d=110 then some (10,2) else if d=116 then some (9,2)
    else if d=120 then
     match r' with
     |x::y::_=>if hex x.toNat&&hex y.toNat then some (iX x.toNat*16+iX y.toNat,4) else none
     |_=>none
    else some (d.toNat,2)
  else some (c.toNat,1)
def items:Nat->List UInt8->Nat->Int->(Nat->Bool)->Option (Nat × Int × (Nat->Bool))
 |0,_,_,_,_=>none
 |f+1,l,i,falls,inn=>
  match l with
  |[]=>none
  |c::_=>
   if c=93 then some (i,falls,inn)
   else match one l with
    |none=>none
    |some (a,n)=>
     match l.drop n with
     |[]=>none
     |d::l'=>
      if d=45 then
       match one l' with
       |none=>none
       |some (b,n')=>items f (l'.drop n') (i+n+1+n') (if b<a/\falls<0 then i else falls) (λk=>inn k || (decide (a<=k)&&decide ((k:Int)<=b)))
      else items f (d::l') (i+n) falls (λk=>inn k || (decide (a<=k)&&decide ((k:Int)<=a)))
def set(l:List UInt8)(i:Nat):Option (Nat × Int × (Nat->Bool)):=
 match l with
 |[]=>none
 |c::r=>
  if c=94 then (items (r.length+1) r (i+2) (-1) (λ_=>false)).map λx=>(x.1+1,x.2.1,λk=>x.2.2 k != true)
  else (items (r.length+2) (c::r) (i+1) (-1) (λ_=>false)).map λx=>(x.1+1,x.2.1,λk=>x.2.2 k != false)
def jr{l:List UInt8}{v:Int}(h:one l=some (v,n)):0<=v/\v<256/\1<=n/\n<=4:=by
 unfold one at h;rcases l with _|⟨c,r⟩
 .cases h
 simp only at h;split at h
 .rcases r with _|⟨d,b⟩
  .cases h
  simp only at h;split at h
  .simp at h;omega
  split at h
  .simp at h;omega
  split at h
  .rcases b with _|⟨x,_|⟨y,e⟩⟩
   .cases h
   .cases h
   simp only at h;split at h
   .rename_i a;rw[ZS]at a;have h1:=i5 _ a.1;have h2:=i5 _ a.2;simp only[Zp,dW]at h;omega
   cases h
  have:=Qe d;simp only[Zp,dW]at h;omega
 have:=Qe c;simp only[Zp,dW]at h;omega
def je(p:List UInt8):Nat->Nat->Option Int
 |0,_=>none
 |f+1,i=>
  match p.drop i with
  |[]=>some (-1)
  |c::r=>
   if c=92 then
    match one (c::r)with
    |none=>none
    |some (_,n)=>je p f (i+n)
   else if c=91 then
    match set r i with
    |none=>none
    |some (j,fa,_)=>if 0<=fa then some fa else je p f j
   else if c=123 then
    match r with
    |x::y::r'=>
     if y=44 then
      match r' with
      |z::_=>if z.toNat<x.toNat then some i else je p f (i+1)
      |[]=>none
     else je p f (i+1)
    |_=>none
   else je p f (i+1)
def i4(f:Nat->Bool):Nat->Nat
 |0=>0
 |k+1=>i4 f k+if f k then 1 else 0
def jz(f:N_):∀k,i4 f k<=k
 |0=>Zg _
 |k+1=>by have:=jz f k;unfold i4;split<;>omega
def js(p:List UInt8):Nat->Nat->Option Int
 |0,_=>none
 |f+1,i=>
  match p.drop i with
  |[]=>some (-1)
  |c::r=>
   if c=92 then
    match one (c::r)with
    |none=>none
    |some (_,n)=>js p f (i+n)
   else if c=91 then
    match set r i with
    |none=>none
    |some (j,_,inn)=>if i4 inn 256=0 then some i else js p f j
   else js p f (i+1)
def jm{l:List UInt8}{f:Nat}(h:items f l i fa inn=some (j,fb,inb)):i<=j:=by
 induction f generalizing l i fa inn with
 |zero=>simp[items]at h
 |succ f ih=>
  unfold items at h;rcases l with _|⟨c,r⟩
  .cases h
  simp only at h;split at h
  .simp only[Zp,dW]at h;omega
  rcases ho:one (c::r)with _|⟨a,n⟩
  .rw[ho]at h;cases h
  rw[ho]at h;simp only at h;rcases hd:(c::r).drop n with _|⟨d,e⟩
  .rw[hd]at h;cases h
  rw[hd]at h;simp only at h;split at h
  .rcases ho2:one e with _|⟨b,n'⟩
   .rw[ho2]at h;cases h
   rw[ho2]at h;have:=ih h;omega
  have:=ih h;omega
def i7{l:List UInt8}(h:set l i=some (j,fb,inb)):i+2<=j:=by
 unfold set at h;rcases l with _|⟨c,r⟩
 .cases h
 simp only at h;split at h
 .rcases hx:items (r.length+1) r (i+2) (-1) (λ_=>false)with _|⟨a,b,d⟩
  .rw[hx]at h;cases h
  rw[hx]at h;have:=jm hx;simp only[dX,Zp,dW]at h;omega
 rcases hx:items (r.length+2) (c::r) (i+1) (-1) (λ_=>false)with _|⟨a,b,d⟩
 .rw[hx]at h;cases h
 rw[hx]at h;have:=jm hx;simp only[dX,Zp,dW]at h;omega
end Rf
def X8(vs:Nat->Int):Nat->Int
 |0=>0
 |n+1=>X8 vs n+vs n
namespace Rf
def jg(p:List UInt8):Nat->Nat->Int->Option Nat
 |0,_,_=>none
 |f+1,i,o=>
  match p.drop i with
  |[]=>some 1
  |c::r=>
   if c=92 then
    match one (c::r)with
    |none=>none
    |some (_,n)=>jg p f (i+n) o
   else if c=91 then
    match set r i with
    |none=>none
    |some (j,_,_)=>jg p f j o
   else if c=40 then jg p f (i+1) (o+1)
   else if c=41 then (if o-1=0 then some (i+1) else jg p f (i+1) (o-1))
   else jg p f (i+1) o
def jw(l:List UInt8):Option Nat:=
 match l with
 |[]=>none
 |c::r=>
  if c=92 then (one (c::r)).map (·.2)
  else if c=91 then (set r 0).map (·.1)
  else if c=40 then jg (c::r) (r.length+2) 0 0
  else some 1
def i8(p:List UInt8):Nat->Nat->Option Nat
 |0,_=>none
 |f+1,i=>
  match p.drop i with
  |[]=>none
  |c::_=>if c=125 then some (i+1) else i8 p f (i+1)
def i0(p:List UInt8)(i:Nat):Option Nat:=
 match p.drop i with
 |[]=>none
 |c::_=>if c=123 then i8 p (p.length+1) i else some (i+1)
def suffixes:List UInt8:=[42,43,63,123]
def jk(p:List UInt8):Nat->Nat->Option Nat
 |0,_=>none
 |f+1,n=>
  match p.drop n with
  |[]=>some n
  |c::_=>
   if has suffixes c.toNat then
    match i0 p n with
    |none=>none
    |some n'=>jk p f n'
   else some n
def iV(l:List UInt8):Option Nat:=
 match jw l with
 |none=>none
 |some n=>jk l (l.length+1) n
def jy(p:List UInt8):Nat->Nat->Nat->Option Nat
 |0,_,_=>none
 |f+1,n,cut=>
  match p.drop n with
  |[]=>some cut
  |_::_=>
   match i0 p n with
   |none=>none
   |some n'=>jy p f n' n
def split(l:List UInt8):Option Nat:=
 match jw l with
 |none=>none
 |some n=>jy l (l.length+1) n n
def most:List UInt8->Option Int
 |_::x::y::r=>
  if iT x.toNat then
   if y=44 then
    match r with
    |z::_=>if iT z.toNat then some ((z.toNat:Int)-48) else none
    |[]=>none
   else some ((x.toNat:Int)-48)
  else none
 |_=>none
def cnt:Nat->Bool->List UInt8->Option Int
 |0,_,_=>none
 |f+1,true,l=>
  match l with
  |[]=>some 0
  |c::r=>
   if c=124 then cnt f true r
   else match iV (c::r)with
    |none=>none
    |some k=>
     match cnt f false ((c::r).take k),cnt f true ((c::r).drop k)with
     |some a,some b=>some (a+b)
     |_,_=>none
 |f+1,false,l=>
  match split l with
  |none=>none
  |some cut=>
   match l.drop cut with
   |u::us=>
    match cnt f false (l.take cut)with
    |none=>none
    |some n=>if u=123 then (most (u::us)).map (n*·) else some n
   |[]=>
    match l with
    |[]=>none
    |c::r=>if c=40 then (if r.length=0 then none else cnt f true (r.take (r.length-1))) else some 1
def iU{p:List UInt8}{f:Nat}(h:i8 p f i=some n):i<n/\n<=p.length:=by
 induction f generalizing i with
 |zero=>simp[i8]at h
 |succ f ih=>
  unfold i8 at h;rcases hd:p.drop i with _|⟨c,r⟩
  .rw[hd]at h;cases h
  rw[hd]at h;have b:i<p.length:=by
   rcases ZD i p.length with a|a
   .exact a
   rw[dT a]at hd;cases hd
  simp only at h;split at h
  .simp at h;omega
  have:=ih h;omega
def jl{p:List UInt8}(h:i0 p i=some n):i<n:=by
 unfold i0 at h;rcases hd:p.drop i with _|⟨c,r⟩
 .rw[hd]at h;cases h
 rw[hd]at h;simp only at h;split at h
 .exact(iU h).1
 simp at h;omega
def jh{p:List UInt8}(h:i0 p i=some n):n<=p.length:=by
 unfold i0 at h;rcases hd:p.drop i with _|⟨c,r⟩
 .rw[hd]at h;cases h
 rw[hd]at h;have b:i<p.length:=by
  rcases ZD i p.length with a|a
  .exact a
  rw[dT a]at hd;cases hd
 simp only at h;split at h
 .exact(iU h).2
 simp at h;omega
def jv{p:List UInt8}{f r:Nat}(h:jy p f n c=some r):c<=p.length->r<=p.length:=by
 induction f generalizing n c with
 |zero=>simp[jy]at h
 |succ f ih=>
  intro b;unfold jy at h;rcases hd:p.drop n with _|⟨x,y⟩
  .rw[hd]at h;simp at h;omega
  rw[hd]at h;have d:n<p.length:=by
   rcases ZD n p.length with a|a
   .exact a
   rw[dT a]at hd;cases hd
  simp only at h;rcases hs:i0 p n with _|n'
  .rw[hs]at h;cases h
  rw[hs]at h;exact ih h Qo
def i9{l:List UInt8}{v:Int}(h:one l=some (v,n)):n<=l.length:=by
 unfold one at h;rcases l with _|⟨c,r⟩
 .cases h
 simp only at h;split at h
 .rcases r with _|⟨d,a⟩
  .cases h
  simp only at h;split at h
  .simp at h;simp;omega
  split at h
  .simp at h;simp;omega
  split at h
  .rcases a with _|⟨x,_|⟨y,b⟩⟩
   .cases h
   .cases h
   simp only at h;split at h
   .simp only[Zp,dW]at h;simp;omega
   cases h
  simp only[Zp,dW]at h;simp;omega
 simp only[Zp,dW]at h;simp;omega
def jp{l:List UInt8}{f:Nat}(h:items f l i fa inn=some (j,fb,inb)):j<i+l.length:=by
 induction f generalizing l i fa inn with
 |zero=>simp[items]at h
 |succ f ih=>
  unfold items at h;rcases l with _|⟨c,r⟩
  .cases h
  simp only at h;split at h
  .simp only[Zp,dW]at h;simp;omega
  rcases ho:one (c::r)with _|⟨a,n⟩
  .rw[ho]at h;cases h
  rw[ho]at h;simp only at h;have m:=i9 ho;rcases hd:(c::r).drop n with _|⟨d,e⟩
  .rw[hd]at h;cases h
  have k:(d::e).length=(c::r).length-n:=by rw[<-hd];simp
  rw[hd]at h;simp only at h;split at h
  .rcases ho2:one e with _|⟨b,n'⟩
   .rw[ho2]at h;cases h
   rw[ho2]at h;have g:=i9 ho2;have:=ih h;simp only[dY,dZ]at *;omega
  have:=ih h;simp only[dZ]at *;omega
def ju{l:List UInt8}(h:set l i=some (j,fb,inb)):j<=i+1+l.length:=by
 unfold set at h;rcases l with _|⟨c,r⟩
 .cases h
 simp only at h;split at h
 .rcases hx:items (r.length+1) r (i+2) (-1) (λ_=>false)with _|⟨a,b,d⟩
  .rw[hx]at h;cases h
  rw[hx]at h;have:=jp hx;simp only[dX,Zp,dW]at h;simp;omega
 rcases hx:items (r.length+2) (c::r) (i+1) (-1) (λ_=>false)with _|⟨a,b,d⟩
 .rw[hx]at h;cases h
 rw[hx]at h;have:=jp hx;simp only[dX,Zp,dW]at h;simp at *;omega
def jq{p:List UInt8}{f:Nat}{o:Int}(h:jg p f i o=some n):1<=n/\(1<=p.length->n<=p.length):=by
 induction f generalizing i o with
 |zero=>simp[jg]at h
 |succ f ih=>
  unfold jg at h;rcases hd:p.drop i with _|⟨c,r⟩
  .rw[hd]at h;simp at h;omega
  rw[hd]at h;have e:i<p.length:=by
   rcases ZD i p.length with d|d
   .exact d
   rw[dT d]at hd;cases hd
  simp only at h;split at h
  .rcases ho:one (c::r)with _|⟨a,n'⟩
   .rw[ho]at h;cases h
   rw[ho]at h;exact ih h
  split at h
  .rcases ho:set r i with _|⟨j,a,b⟩
   .rw[ho]at h;cases h
   rw[ho]at h;exact ih h
  split at h
  .exact ih h
  split at h
  .split at h
   .simp at h;omega
   exact ih h
  exact ih h
def iY{l:List UInt8}(h:jw l=some n):1<=n/\n<=l.length:=by
 unfold jw at h;rcases l with _|⟨c,r⟩
 .cases h
 simp only at h;split at h
 .rcases ho:one (c::r)with _|⟨a,n'⟩
  .rw[ho]at h;cases h
  have h1:=jr ho;have h2:=i9 ho;rw[ho]at h;simp at h;omega
 split at h
 .rcases ho:set r 0 with _|⟨j,a,b⟩
  .rw[ho]at h;cases h
  have h1:=i7 ho;have h2:=ju ho;rw[ho]at h;simp at h;simp at *;omega
 split at h
 .have:=jq h;simp at *;omega
 simp at h;simp;omega
def jd{p:List UInt8}{f r:Nat}(h:jk p f n=some r):n<=p.length->n<=r/\r<=p.length:=by
 induction f generalizing n with
 |zero=>simp[jk]at h
 |succ f ih=>
  intro a;unfold jk at h;rcases hd:p.drop n with _|⟨x,y⟩
  .rw[hd]at h;simp at h;omega
  rw[hd]at h;simp only at h;split at h
  .rcases hs:i0 p n with _|n'
   .rw[hs]at h;cases h
   rw[hs]at h;have h1:=jl hs;have h2:=jh hs;have:=ih h h2;omega
  simp at h;omega
def jb{l:List UInt8}(h:iV l=some n):1<=n/\n<=l.length:=by
 unfold iV at h;rcases ha:jw l with _|n0
 .rw[ha]at h;cases h
 rw[ha]at h;have h1:=iY ha;have:=jd h h1.2;omega
def jf{l:List UInt8}(h:split l=some n):n<=l.length:=by
 unfold split at h;rcases ha:jw l with _|n0
 .rw[ha]at h;cases h
 rw[ha]at h;exact jv h (iY ha).2
def ji{l:List UInt8}{m:Int}(h:most l=some m):0<=m/\m<=9/\3<=l.length:=by
 unfold most at h;split at h
 .rename_i x y z r;split at h
  .rename_i c;have d:48<=(y.toNat:Int)/\(y.toNat:Int)<=57:=by simpa[iT]using c
   split at h
   .split at h
    .rename_i a b;split at h
     .rename_i hz;have e:48<=(a.toNat:Int)/\(a.toNat:Int)<=57:=by simpa[iT]using hz
      simp at h;simp;omega
     cases h
    cases h
   simp at h;simp;omega
  cases h
 cases h
def ja(a b:Nat)(ha:1<=a)(z:1<=b):5 ^ a*2 ^ b+5 ^ b*2 ^ a<=5 ^ (a+b):=by
 obtain⟨a,rfl⟩:∃a',a=a'+1:=⟨a-1,Qo⟩;obtain⟨b,rfl⟩:∃b',b=b'+1:=⟨b-1,Qo⟩;have h1:(2:Nat) ^ b<=5 ^ b:=ec Qo b;have h2:(2:Nat) ^ a<=5 ^ a:=ec Qo a;have h3:(5:Nat) ^ a*2 ^ b<=5 ^ a*5 ^ b:=dR _ h1;have e:(5:Nat) ^ b*2 ^ a<=5 ^ b*5 ^ a:=dR _ h2;have f:(5:Nat) ^ b*5 ^ a=5 ^ a*5 ^ b:=ed _ _;have c:(5:Nat) ^ (a+1)*2 ^ (b+1)=10*(5 ^ a*2 ^ b):=by rw[ej,ej,Nat.mul_mul_mul_comm];omega
 have e2:(5:Nat) ^ (b+1)*2 ^ (a+1)=10*(5 ^ b*2 ^ a):=by rw[ej,ej,Nat.mul_mul_mul_comm];omega
 have d:(5:Nat) ^ (a+1+(b+1))=25*(5 ^ a*5 ^ b):=by
  rw[show a+1+(b+1)=(a+b)+2 by omega,el,el];omega
 omega
def iZ{f:Nat}:∀ {t:Bool}{l:List UInt8}{v:Int},cnt f t l=some v->0<=v/\v.toNat*2 ^ l.length<=5 ^ l.length/\(l=[]->v=0):=by
 induction f with
 |zero=>intro t l v h;simp[cnt]at h
 |succ f ih=>
  intro t l v h;cases t
  .-- a iV
   unfold cnt at h;rcases hs:split l with _|g
   .rw[hs]at h;cases h
   have F:=jf hs;rw[hs]at h;simp only at h;rcases i:l.drop g with _|⟨u,B⟩
   .rw[i]at h;rcases l with _|⟨c,r⟩
    .simp at h
    simp only at h;split at h
    .split at h
     .cases h
     let⟨h1,h2,_⟩:=ih h;refine⟨h1,?_,Qs⟩;have E:(r.take (r.length-1)).length=r.length-1:=Qs
     rw[E]at h2;have H:(2:Nat) ^ (c::r).length<=4*2 ^ (r.length-1):=by
      rw[show 4=2 ^ 2 from rfl,<-el];exact Nat.pow_le_pow_right Qo Qp
     have N:(5:Nat)*5 ^ (r.length-1)<=5 ^ (c::r).length:=by
      rw[ed,<-ej];exact Nat.pow_le_pow_right Qo Qs
     calc v.toNat*2 ^ (c::r).length<=v.toNat*(4*2 ^ (r.length-1)):=dR _ H
      _=4*(v.toNat*2 ^ (r.length-1)):=by rw[Nat.mul_left_comm]
      _<=5 ^ (c::r).length:=Qo
    simp only[Zp]at h;subst h;refine⟨Qo,?_,Qs⟩;have:(2:Nat) ^ (c::r).length<=5 ^ (c::r).length:=ec Qo _;simpa using this
   rw[i]at h;simp only at h;rcases hx:cnt f false (l.take g)with _|n
   .rw[hx]at h;cases h
   let⟨h1,h2,_⟩:=ih hx;rw[hx]at h;simp only at h;have o:(l.take g).length=g:=Qp
   have D:(u::B).length=l.length-g:=by rw[<-i];simp
   have p:l≠[]:=by intro e;rw[e]at i;simp at i
   rw[o]at h2;split at h
   .rcases hm:most (u::B)with _|m
    .rw[hm]at h;cases h
    let⟨A,M,m2⟩:=ji hm;rw[hm]at h;simp only[dX,Zp]at h;subst h;refine⟨ep h1 A,?_,λe=>absurd e p⟩;obtain⟨d,j⟩:∃d,l.length=g+(d+3):=⟨l.length-g-3,Qo⟩;have w:=Int.toNat_mul h1 A;rw[w,j,el 2 g,el 5 g];have I:m.toNat*2 ^ (d+3)<=5 ^ (d+3):=by
     have y:m.toNat<=9:=Qo
     have:(2:Nat) ^ d<=5 ^ d:=ec Qo d
     calc m.toNat*2 ^ (d+3)<=9*2 ^ (d+3):=ZQ _ y
      _<=5 ^ (d+3):=by rw[el,el];omega
    calc n.toNat*m.toNat*(2 ^ g*2 ^ (d+3))=(n.toNat*2 ^ g)*(m.toNat*2 ^ (d+3)):=by rw[Nat.mul_mul_mul_comm]
     _<=5 ^ g*5 ^ (d+3):=dP h2 I
   simp only[Zp]at h;subst h;refine⟨h1,?_,λe=>absurd e p⟩;obtain⟨d,j⟩:∃d,l.length=g+d:=⟨l.length-g,Qo⟩;rw[j,el,el,<-eu];exact dP h2 (ec Qo d)
  -- a pattern
  unfold cnt at h;rcases l with _|⟨c,r⟩
  .simp only[Zp]at h;subst h;exact⟨Qo,Qs,λ_=>rfl⟩
  simp only at h;split at h
  .let⟨h1,h2,_⟩:=ih h;refine⟨h1,?_,Qs⟩;rw[dZ,ej,ej,<-eu];omega
  rcases hp:iV (c::r)with _|k
  .rw[hp]at h;cases h
  let⟨k1,L⟩:=jb hp;rw[hp]at h;simp only at h;rcases ha:cnt f false ((c::r).take k)with _|a
  .rw[ha]at h;simp at h
  rcases hb:cnt f true ((c::r).drop k)with _|b
  .rw[ha,hb]at h;simp at h
  rw[ha,hb]at h;simp only[Zp]at h;subst h;let⟨J,s,_⟩:=ih ha;let⟨K,z,C⟩:=ih hb;refine⟨Qo,?_,Qs⟩;have G:((c::r).take k).length=k:=by simp at *;omega
  rw[G]at s;obtain⟨d,i⟩:∃d,(c::r).length=k+d:=⟨(c::r).length-k,Qo⟩;have lb:((c::r).drop k).length=d:=by simp only[dY];omega
  rw[lb]at z;rw[i];have w:(a+b).toNat=a.toNat+b.toNat:=Qo
  rw[w,dQ,el 2 k d];rcases ey d with hz|q
  .have x:b=0:=C (dA Qo);subst hz;subst x;simpa using s
  have:=ja k d k1 q;have O:a.toNat*(2 ^ k*2 ^ d)<=5 ^ k*2 ^ d:=by rw[<-eu];exact ZQ _ s
  have P:b.toNat*(2 ^ k*2 ^ d)<=5 ^ d*2 ^ k:=by rw[ed (2 ^ k),<-eu];exact ZQ _ z
  omega
def jc{f:Nat}{t:Bool}{l:List UInt8}{v:Int}(h:cnt f t l=some v)(z:l.length<=40):0<=v/\v<=9094947017729282:=by
 let⟨h1,h2,_⟩:=iZ h;refine⟨h1,?_⟩;obtain⟨d,a⟩:∃d,40=l.length+d:=⟨40-l.length,Qo⟩;have h3:v.toNat*2 ^ 40<=5 ^ 40:=by
  rw[a,el,el,<-eu];exact dP h2 (ec Qo d)
 omega
def iW(l:List UInt8)(e a:Int):Prop:=
 (40<l.length/\e=2/\a=0)\/(l.length<=40 /\
  ((0<=form l/\e=3/\a=form l)\/(form l<0 /\
   ((0<=deep l/\e=4/\a=deep l)\/(deep l<0/\∃f v,je l f 0=some v /\
    ((0<=v/\e=5/\a=v)\/(v<0/\∃g u,js l g 0=some u/\((0<=u/\e=6/\a=u)\/(u<0/\e=0/\a=0)))))))))
end Rf
def Y7(s:ByteArray)(i:Int):Int:=if 0<=i/\i<s.size then ((s.data.toList.getD i.toNat 0).toNat:Int) else -1
def EY{i:Int}(h:¬(0<=i/\i<s.size)):Y7 s i=-1:=by unfold Y7;rw[dG h]
def JJ{i:Int}(h:i.toNat<s.size)(h0:0<=i):Y7 s i=(s[i.toNat].toNat:Int):=by
 unfold Y7;rw[dF ⟨h0,Qo⟩,Qm s _ h]
def Mw(s:ByteArray)(i:Int):-1<=Y7 s i/\Y7 s i<256:=by
 unfold Y7;split
 .have:=(s.data.toList.getD i.toNat 0).toNat_lt;omega
 omega
namespace Pg
structure R where
 v:Int
 n:Int
 ok:Bool
def iM(b:Int):Bool:=b==92 || b==46 || b==91 || b==93 || b==40 || b==41 || b==123 || b==125 || b==124 || b==42 || b==43 || b==63 || b==94 || b==45
def iN(b:Int):Bool:=!(b==-1 || b==92 || b==91 || b==93 || b==94 || b==45)
def iI(b:Int):Int:=if 48<=b/\b<=57 then b-48 else -1
def gU(b:Int):Int:=if 97<=b/\b<=102 then b-97+10 else iI b
def hY(b:Int):Int:=
 if b=-1\/b=93\/b=125 then 0 else if b=40 then 2 else if b=41 then 3 else if b=124 then 4
 else if b=42 then 5 else if b=43 then 6 else if b=63 then 7 else if b=123 then 8 else 1
def gI(k:Int):Bool:=k==5 || k==6 || k==7 || k==8
def opn(kd:Int):Int:=if kd=2 then 1 else if kd=3 then -1 else 0
def iO(kd:Int):-1<=opn kd/\opn kd<=1:=by
 unfold opn
 repeat' split
 all_goals omega
def hJ(k:Int):Bool:=k==1 || k==3 || gI k
def gX(k before op:Int):Bool:=if k=0 then false else if k=3 then decide (0<op) else if gI k then hJ before else true
def gW(n:Int):Int:=if 96<n then 97 else n
def ii(g:Int->Int)(i:Int):R:=
 if gU (g i)<0 then ⟨0,i,false⟩
 else if gU (g (i+1))<0 then ⟨0,i+1,false⟩
 else ⟨gU (g i)*16+gU (g (i+1)),i+2,true⟩
def iz(g:Int->Int)(i:Int):R:=
 if g (i+1)=110 then ⟨10,i+2,true⟩ else if g (i+1)=116 then ⟨9,i+2,true⟩
 else if g (i+1)=120 then ii g (i+2)
 else if iM (g (i+1)) then ⟨g (i+1),i+2,true⟩ else ⟨0,i+1,false⟩
def iK(g:Int->Int)(i:Int):R:=
 if g i=92 then iz g i else if iN (g i) then ⟨g i,i+1,true⟩ else ⟨0,i,false⟩
structure I where
 lo:Int
 hi:Int
 n:Int
 ok:Bool
def ir(g:Int->Int)(i:Int):I:=
 if (iK g i).ok then
  (if g (iK g i).n=45 then ⟨(iK g i).v,(iK g ((iK g i).n+1)).v,(iK g ((iK g i).n+1)).n,(iK g ((iK g i).n+1)).ok⟩
  else ⟨(iK g i).v,(iK g i).v,(iK g i).n,true⟩)
 else ⟨0,0,(iK g i).n,false⟩
def gR(g:Int->Int)(i least:Int):R:=
 if g i=125 then ⟨least,i+1,true⟩
 else if g i=44 then
  (if iI (g (i+1))<0 then ⟨0,i+1,false⟩
  else if g (i+2)=125 then ⟨iI (g (i+1)),i+3,true⟩ else ⟨0,i+2,false⟩)
 else ⟨0,i,false⟩
def gJ(b:Int):-1<=gU b/\gU b<16:=by
 unfold gU iI;split
 .omega
 split<;>omega
def iG(b:Int):-1<=iI b/\iI b<10:=by
 unfold iI;split<;>omega
def iL(g:Int->Int)(i:Int):0<=(ii g i).v/\(ii g i).v<256/\i<=(ii g i).n/\(ii g i).n<=i+2:=by
 have h1:=gJ (g i);have h2:=gJ (g (i+1));unfold ii;split
 .simp;omega
 split
 .simp;omega
 simp;omega
def iu(g:Int->Int)(i:Int)(z:∀j,-1<=g j/\g j<256):0<=(iz g i).v/\(iz g i).v<256/\i<(iz g i).n/\(iz g i).n<=i+4:=by
 have h:=z (i+1);have h2:=iL g (i+2);unfold iz;split
 .simp;omega
 split
 .simp;omega
 split
 .omega
 split
 .rename_i a;have:0<=g (i+1):=by
   simp only[iM,dp,dq]at a;omega
  simp;omega
 simp;omega
def iQ(g:Int->Int)(i:Int)(z:∀j,-1<=g j/\g j<256):0<=(iK g i).v/\(iK g i).v<256/\i<=(iK g i).n/\(iK g i).n<=i+4/\((iK g i).ok=true->i<(iK g i).n):=by
 have h:=z i;have h2:=iu g i z;unfold iK;split
 .omega
 split
 .rename_i a;have:g i≠-1:=by
   intro e;rw[e]at a;simp[iN]at a
  simp;omega
 simp;omega
def iP(g:Int->Int)(i:Int)(z:∀j,-1<=g j/\g j<256):i<=(ir g i).n/\(ir g i).n<=i+9/\((ir g i).ok=true->i<(ir g i).n/\0<=(ir g i).lo/\(ir g i).lo<256/\0<=(ir g i).hi/\(ir g i).hi<256):=by
 have h:=iQ g i z;have h2:=iQ g ((iK g i).n+1) z;unfold ir;split
 .rename_i a;have h3:=h.2.2.2.2 a;split
  .simp;omega
  simp;omega
 simp;omega
structure S where
 n:Int
 ok:Bool
 f:Nat->Bool
 fa:Int
def gY(f:Nat->Bool)(a b:Int):Nat->Bool:=λk=>f k || (decide (a<=(k:Int))&&decide ((k:Int)<=b))
def gK(g:Int->Int)(len first:Int):Nat->Int->Int->(Nat->Bool)->S
 |0,e,fa,f=>⟨e,false,f,fa⟩
 |u+1,e,fa,f=>
  if e<len then
   (if g e=93/\first<e then ⟨e+1,true,f,fa⟩
   else if (ir g e).ok then gK g len first u (ir g e).n (if (ir g e).hi<(ir g e).lo/\fa=-1 then e else fa) (gY f (ir g e).lo (ir g e).hi)
   else ⟨(ir g e).n,false,f,fa⟩)
  else ⟨len,false,f,fa⟩
def gM(g:Int->Int)(len i:Int):S:=
 if g (i+1)=94 then (let r:=gK g len (i+2) (len.toNat+1) (i+2) (-1) (λ_=>false);⟨r.n,r.ok,λk=>!r.f k,r.fa⟩)
 else gK g len (i+1) (len.toNat+1) (i+1) (-1) (λ_=>false)
end Pg
end
section
open Go.RowKit
namespace Pg
def iB(g:Int->Int)(i:Int):R:=if iI (g (i+1))<0 then ⟨0,i+1,false⟩ else gR g (i+2) (iI (g (i+1)))
def gZ(g:Int->Int)(i:Int):Int:=if (iB g i).v<iI (g (i+1)) then i else -1
def iC(g:Int->Int)(len i:Int):S:=
 if g i=91 then gM g len i
 else if g i=46 then ⟨i+1,true,λk=>!(gY (λ_=>false) 10 10 k),-1⟩
 else if g i=92 then ⟨(iz g i).n,(iz g i).ok,gY (λ_=>false) (iz g i).v (iz g i).v,-1⟩
 else ⟨i+1,true,gY (λ_=>false) (g i) (g i),-1⟩
structure T where
 n:Int
 ok:Bool
 f:Nat->Bool
 mo:Int
 fa:Int
def gV(g:Int->Int)(len i kind:Int):T:=
 if kind=1 then ⟨(iC g len i).n,(iC g len i).ok,(iC g len i).f,0,(iC g len i).fa⟩
 else if kind=8 then ⟨(iB g i).n,(iB g i).ok,λ_=>false,(iB g i).v,gZ g i⟩
 else ⟨i+1,true,λ_=>false,0,-1⟩
structure Pt where
 kd:Int
 pl:Int
 f:Nat->Bool
 le:Int
 mo:Int
 fa:Int
def Pt.strip(p:Pt):Pt:={ p with le:=0 }
structure PR where
 n:Int
 ok:Bool
 ps:List Pt
def iR(kd op:Int):Int:=if kd=2 then op+1 else if kd=3 then op-1 else op
def ip(kd op:Int):iR kd op=op+opn kd:=by
 unfold iR opn;repeat' split
 all_goals omega
def ij(g:Int->Int)(len:Int):Nat->Int->Int->Int->List Pt->PR
 |0,_,_,i,_=>⟨i,false,[]⟩
 |u+1,before,op,i,acc=>
  if i<len then
   (if gX (hY (g i)) before op then
    (if (gV g len i (hY (g i))).ok then ij g len u (hY (g i)) (iR (hY (g i)) op) (gV g len i (hY (g i))).n (acc++[⟨hY (g i),i,(gV g len i (hY (g i))).f,0,(gV g len i (hY (g i))).mo,(gV g len i (hY (g i))).fa⟩])
    else ⟨(gV g len i (hY (g i))).n,false,[]⟩)
   else ⟨i,false,[]⟩)
  else ⟨i,op==0,acc⟩
def ie(g:Int->Int)(len:Int):PR:=ij g len (len.toNat+1) 0 0 0 []
def iA(g:Int->Int)(len first:Int)(z:∀j,-1<=g j/\g j<256):∀(u:Nat) (e fa:Int) (f:N_),(gK g len first u e fa f).ok=true->e<(gK g len first u e fa f).n/\(gK g len first u e fa f).n<=len:=by
 intro u
 induction u with
 |zero=>intro e fa f h;simp[gK]at h
 |succ u ih=>
  intro e fa f h;have d:=iP g e z;unfold gK at h ⊢;split
  .rename_i b;rw[dF b]at h;split
   .simp;omega
   rename_i c;rw[dG c]at h;split
   .rename_i a;rw[dF a]at h;have:=ih _ _ _ h;have:=d.2.2 a;omega
   rename_i a;rw[dG a]at h;simp at h
  rename_i b;rw[dG b]at h;simp at h
def iS(g:Int->Int)(len i:Int)(z:∀j,-1<=g j/\g j<256)(h:(gM g len i).ok=true):i<(gM g len i).n/\(gM g len i).n<=len:=by
 unfold gM at h ⊢;split
 .rename_i a;rw[dF a]at h;have:=iA g len (i+2) z _ _ _ _ h;simp only;omega
 rename_i a;rw[dG a]at h;have:=iA g len (i+1) z _ _ _ _ h;omega
def gS(g:Int->Int)(len i kd:Int)(z:∀j,-1<=g j/\g j<256)(H:len<=40)(h:(gV g len i kd).ok=true):i<(gV g len i kd).n/\(gV g len i kd).n<=i+5+40\/(gV g len i kd).n<=40/\i<(gV g len i kd).n:=by
 have b:=iu g i z;unfold gV at h ⊢;split
 .rename_i a;rw[dF a]at h;simp only at h ⊢;unfold iC at h ⊢;split
  .rename_i h1;rw[dF h1]at h;have:=iS g len i z h;omega
  rename_i h1;rw[dG h1]at h;split
  .simp;omega
  split
  .simp;omega
  simp;omega
 split
 .simp only;unfold iB gR
  repeat' split
  all_goals (simp;omega)
 simp;omega
/-! What looks Xi the parts. -/
def tooDeep:List Pt->Int->Int
 |[],_=>-1
 |p::r,op=>if 6<iR p.kd op then p.pl else tooDeep r (iR p.kd op)
def falling:List Pt->Int
 |[]=>-1
 |p::r=>if p.fa=-1 then falling r else p.fa
def matchless:List Pt->Int
 |[]=>-1
 |p::r=>if p.kd=1/\Rf.i4 p.f 256=0 then p.pl else matchless r
structure C where
 ah:Int
 la:Int
 st:List Int
def iE(c:C)(p:Pt):C:=
 if p.kd=1 then ⟨gW (c.ah+c.la),1,c.st⟩
 else if p.kd=2 then ⟨0,0,gW (c.ah+c.la)::c.st⟩
 else if p.kd=3 then
  (match c.st with
  |[]=>⟨0,gW (c.ah+c.la),[]⟩
  |x::r=>⟨x,gW (c.ah+c.la),r⟩)
 else if p.kd=4 then ⟨gW (c.ah+c.la),0,c.st⟩
 else if p.kd=8 then ⟨c.ah,gW (c.la*p.mo),c.st⟩
 else c
def cRun:List Pt->C->C
 |[],c=>c
 |p::r,c=>cRun r (iE c p)
def ig(ps:List Pt):Int:=gW ((cRun ps ⟨0,0,[]⟩).ah+(cRun ps ⟨0,0,[]⟩).la)
def gQ(ps:List Pt):∀op,tooDeep (ps.map Pt.strip) op=tooDeep ps op:=by
 induction ps with
 |nil=>intro op;rfl
 |cons p r ih=>intro op;simp only[dt,tooDeep,Pt.strip];rw[ih]
def im(ps:List Pt):falling (ps.map Pt.strip)=falling ps:=by
 induction ps with
 |nil=>rfl
 |cons p r ih=>simp only[dt,falling,Pt.strip];rw[ih]
def iF(ps:List Pt):matchless (ps.map Pt.strip)=matchless ps:=by
 induction ps with
 |nil=>rfl
 |cons p r ih=>simp only[dt,matchless,Pt.strip];rw[ih]
def gH(ps:List Pt):∀c,cRun (ps.map Pt.strip) c=cRun ps c:=by
 induction ps with
 |nil=>intro c;rfl
 |cons p r ih=>intro c;simp only[dt,cRun];rw[ih];rfl
def iH(ps:List Pt):ig (ps.map Pt.strip)=ig ps:=by unfold ig;rw[gH]
def gP(g:Int->Int)(len:Int):Int × Int:=
 if 40<len then (2,0)
 else if (ie g len).ok then
  (if tooDeep (ie g len).ps 0=-1 then
   (if falling (ie g len).ps=-1 then
    (if matchless (ie g len).ps=-1 then (0,0) else (6,matchless (ie g len).ps))
   else (5,falling (ie g len).ps))
  else (4,tooDeep (ie g len).ps 0))
 else (3,(ie g len).n)
def iJ(g:Int->Int)(i l:Int)(h0:0<=l)(z:l<=9):0<=(gR g i l).v/\(gR g i l).v<=9:=by
 have:=iG (g (i+1));unfold gR
 repeat' split
 all_goals (simp;try omega)
def iw(g:Int->Int)(len i kd:Int):0<=(gV g len i kd).mo/\(gV g len i kd).mo<=9:=by
 unfold gV;split
 .simp
 split
 .simp only;unfold iB;have:=iG (g (i+1));split
  .simp
  exact iJ _ _ _ Qo Qo
 simp
def gT(g:Int->Int)(len:Int):∀(u:Nat) (b op i:Int) (z:List Pt),(∀p∈z,0<=p.mo/\p.mo<=9)->∀p∈(ij g len u b op i z).ps,0<=p.mo/\p.mo<=9:=by
 intro u
 induction u with
 |zero=>intro b op i z _ p a;simp[ij]at a
 |succ u ih=>
  intro b op i z c p a;unfold ij at a;split at a
  .split at a
   .split at a
    .refine ih _ _ _ _ ?_ p a;intro q d;rcases ZU.1 d with h|h
     .exact c q h
     simp only[ZC]at h;subst h;exact iw _ _ _ _
    simp at a
   simp at a
  exact c p a
def iD(g:Int->Int)(len:Int):∀p∈(ie g len).ps,0<=p.mo/\p.mo<=9:=gT g len _ _ _ _ _ Qs
def gO(n:Int)(h:0<=n):0<=gW n/\gW n<=97:=by unfold gW;split<;>omega
end Pg
end
