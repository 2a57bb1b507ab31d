import Derived.WalkKit
import Derived.Test.YtoaaklhpmhjhkabSk
set_option maxRecDepth 100000
set_option maxHeartbeats 4000000
set_option linter.all false
namespace Go.Proofs.Ytoaaklhpmhjhkab
inductive Rx where
 |eps
 |lit (f:Nat->Bool)
 |cat (a b:Rx)
 |alt (a b:Rx)
 |star (a:Rx)
 |plus (a:Rx)
 |opt (a:Rx)
namespace Rx
def sz:Rx->Nat
 |eps=>0
 |lit _=>1
 |cat a b=>a.sz+b.sz
 |alt a b=>a.sz+b.sz
 |star a=>a.sz
 |plus a=>a.sz
 |opt a=>a.sz
def nul:Rx->Bool
 |eps=>true
 |lit _=>false
 |cat a b=>a.nul&&b.nul
 |alt a b=>a.nul || b.nul
 |star _=>true
 |plus a=>a.nul
 |opt _=>true
def fst:Rx->Nat->Nat->Bool
 |eps,_,_=>false
 |lit _,o,p=>p==o
 |cat a b,o,p=>a.fst o p || (a.nul&&b.fst (o+a.sz) p)
 |alt a b,o,p=>a.fst o p || b.fst (o+a.sz) p
 |star a,o,p=>a.fst o p
 |plus a,o,p=>a.fst o p
 |opt a,o,p=>a.fst o p
def lst:Rx->Nat->Nat->Bool
 |eps,_,_=>false
 |lit _,o,p=>p==o
 |cat a b,o,p=>b.lst (o+a.sz) p || (b.nul&&a.lst o p)
 |alt a b,o,p=>a.lst o p || b.lst (o+a.sz) p
 |star a,o,p=>a.lst o p
 |plus a,o,p=>a.lst o p
 |opt a,o,p=>a.lst o p
def fol:Rx->Nat->Nat->Nat->Bool
 |eps,_,_,_=>false
 |lit _,_,_,_=>false
 |cat a b,o,p,q=>a.fol o p q || b.fol (o+a.sz) p q || (a.lst o p&&b.fst (o+a.sz) q)
 |alt a b,o,p,q=>a.fol o p q || b.fol (o+a.sz) p q
 |star a,o,p,q=>a.fol o p q || (a.lst o p&&a.fst o q)
 |plus a,o,p,q=>a.fol o p q || (a.lst o p&&a.fst o q)
 |opt a,o,p,q=>a.fol o p q
def has:Rx->Nat->Nat->Nat->Bool
 |eps,_,_,_=>false
 |lit f,o,p,b=>p==o&&f b
 |cat a b,o,p,c=>a.has o p c || b.has (o+a.sz) p c
 |alt a b,o,p,c=>a.has o p c || b.has (o+a.sz) p c
 |star a,o,p,c=>a.has o p c
 |plus a,o,p,c=>a.has o p c
 |opt a,o,p,c=>a.has o p c
theorem fst_rng:∀(e:Rx) (o p:Nat),e.fst o p=true->o<=p/\p<o+e.sz
 |eps,o,p,h=>by simp[fst]at h
 |lit _,o,p,h=>by simp[fst]at h;subst h;simp[sz]
 |cat a b,o,p,h=>by
  simp only[fst,Bool.or_eq_true,Bool.and_eq_true]at h;rcases h with h|⟨_,h⟩
  ·have:=fst_rng a o p h;simp only[sz];omega
  ·have:=fst_rng b _ p h;simp only[sz];omega
 |alt a b,o,p,h=>by
  simp only[fst,Bool.or_eq_true]at h;rcases h with h|h
  ·have:=fst_rng a o p h;simp only[sz];omega
  ·have:=fst_rng b _ p h;simp only[sz];omega
 |star a,o,p,h=>fst_rng a o p h
 |plus a,o,p,h=>fst_rng a o p h
 |opt a,o,p,h=>fst_rng a o p h
theorem lst_rng:∀(e:Rx) (o p:Nat),e.lst o p=true->o<=p/\p<o+e.sz
 |eps,o,p,h=>by simp[lst]at h
 |lit _,o,p,h=>by simp[lst]at h;subst h;simp[sz]
 |cat a b,o,p,h=>by
  simp only[lst,Bool.or_eq_true,Bool.and_eq_true]at h;rcases h with h|⟨_,h⟩
  ·have:=lst_rng b _ p h;simp only[sz];omega
  ·have:=lst_rng a _ p h;simp only[sz];omega
 |alt a b,o,p,h=>by
  simp only[lst,Bool.or_eq_true]at h;rcases h with h|h
  ·have:=lst_rng a o p h;simp only[sz];omega
  ·have:=lst_rng b _ p h;simp only[sz];omega
 |star a,o,p,h=>lst_rng a o p h
 |plus a,o,p,h=>lst_rng a o p h
 |opt a,o,p,h=>lst_rng a o p h
theorem fol_rng:∀(e:Rx) (o p q:Nat),e.fol o p q=true->o<=p/\p<o+e.sz/\o<=q/\q<o+e.sz
 |eps,o,p,q,h=>by simp[fol]at h
 |lit _,o,p,q,h=>by simp[fol]at h
 |cat a b,o,p,q,h=>by
  simp only[fol,Bool.or_eq_true,Bool.and_eq_true]at h;rcases h with (h|h)|⟨h,h'⟩
  ·have:=fol_rng a o p q h;simp only[sz];omega
  ·have:=fol_rng b _ p q h;simp only[sz];omega
  ·have:=lst_rng a _ p h;have:=fst_rng b _ q h';simp only[sz];omega
 |alt a b,o,p,q,h=>by
  simp only[fol,Bool.or_eq_true]at h;rcases h with h|h
  ·have:=fol_rng a o p q h;simp only[sz];omega
  ·have:=fol_rng b _ p q h;simp only[sz];omega
 |star a,o,p,q,h=>by
  simp only[fol,Bool.or_eq_true,Bool.and_eq_true]at h;rcases h with h|⟨h,h'⟩
  ·exact fol_rng a o p q h
  ·have:=lst_rng a _ p h;have:=fst_rng a _ q h';simp only[sz];omega
 |plus a,o,p,q,h=>by
  simp only[fol,Bool.or_eq_true,Bool.and_eq_true]at h;rcases h with h|⟨h,h'⟩
  ·exact fol_rng a o p q h
  ·have:=lst_rng a _ p h;have:=fst_rng a _ q h';simp only[sz];omega
 |opt a,o,p,q,h=>fol_rng a o p q h
theorem has_rng:∀(e:Rx) (o p b:Nat),e.has o p b=true->o<=p/\p<o+e.sz
 |eps,o,p,_,h=>by simp[has]at h
 |lit _,o,p,_,h=>by simp only[has,Bool.and_eq_true,beq_iff_eq]at h;simp[sz];omega
 |cat a b,o,p,c,h=>by
  simp only[has,Bool.or_eq_true]at h;rcases h with h|h
  ·have:=has_rng a o p c h;simp only[sz];omega
  ·have:=has_rng b _ p c h;simp only[sz];omega
 |alt a b,o,p,c,h=>by
  simp only[has,Bool.or_eq_true]at h;rcases h with h|h
  ·have:=has_rng a o p c h;simp only[sz];omega
  ·have:=has_rng b _ p c h;simp only[sz];omega
 |star a,o,p,c,h=>has_rng a o p c h
 |plus a,o,p,c,h=>has_rng a o p c h
 |opt a,o,p,c,h=>has_rng a o p c h
variable {e : Rx}
theorem fst_lt {o p:Nat} (h:p<o\/o+e.sz<=p):e.fst o p=false:=by
 cases hf:e.fst o p
 ·rfl
 ·have:=fst_rng e o p hf;omega
theorem lst_lt {o p:Nat} (h:p<o\/o+e.sz<=p):e.lst o p=false:=by
 cases hf:e.lst o p
 ·rfl
 ·have:=lst_rng e o p hf;omega
theorem fol_lt {o p q:Nat} (h:p<o\/o+e.sz<=p\/q<o\/o+e.sz<=q):e.fol o p q=false:=by
 cases hf:e.fol o p q
 ·rfl
 ·have:=fol_rng e o p q hf;omega
variable {b : Nat}
theorem has_lt {o p:Nat} (h:p<o\/o+e.sz<=p):e.has o p b=false:=by
 cases hf:e.has o p b
 ·rfl
 ·have:=has_rng e o p b hf;omega
def nz (e:Rx):Rx:=if e.sz=0 then eps else e
theorem nz_sz (e:Rx):e.nz.sz=e.sz:=by
 unfold nz;split
 ·rename_i h;rw[h];rfl
 ·rfl
def rowOf (l:List Rx):Rx:=l.foldl cat eps
def copies (e:Rx) (m n:Nat):List Rx:=(List.range n).map fun i=>if i<m then e else opt e
def suf (kd:Int) (le mo:Nat) (e:Rx):Rx:=
 if kd=5 then star e else if kd=6 then plus e else if kd=7 then opt e else rowOf (copies e le mo)
theorem foldl_sz (l:List Rx):∀a:Rx,(l.foldl cat a).sz=a.sz+(l.map sz).sum:=by
 induction l with
 |nil=>intro a;simp
 |cons x l ih=>intro a;simp only[List.foldl_cons,ih,sz,List.map_cons,List.sum_cons];omega
theorem rowOf_sz (l:List Rx):(rowOf l).sz=(l.map sz).sum:=by unfold rowOf;rw[foldl_sz];simp[sz]
theorem rowOf_snoc (l:List Rx) (x:Rx):rowOf (l++[x])=cat (rowOf l) x:=by simp[rowOf]
theorem copies_sz (e:Rx) (m n:Nat):(rowOf (copies e m n)).sz=n*e.sz:=by
 induction n with
 |zero=>simp[copies,rowOf,sz]
 |succ n ih=>
  have:copies e m (n+1)=copies e m n++[if n<m then e else opt e]:=by simp[copies,List.range_succ]
  rw[this,rowOf_snoc,sz,ih,Nat.succ_mul];split<;>rfl
theorem copies_succ (e:Rx) (m n:Nat):copies e m (n+1)=copies e m n++[if n<m then e else opt e]:=by simp[copies,List.range_succ]
end Rx
open Go.RowKit
inductive St (L:List Nat->Prop):List Nat->Prop
 |nil:St L []
 |cons {u v:List Nat} (h:L u) (k:St L v):St L (u++v)
def Cc (L M:List Nat->Prop) (w:List Nat):Prop:=∃u v,w=u++v/\L u/\M v
theorem St.split {L:List Nat->Prop}{w:List Nat} (h:St L w) (hw:w≠[]):∃c x y,w=c::(x++y)/\L (c::x)/\St L y:=by
 induction h with
 |nil=>exact absurd rfl hw
 |@cons u v h k ih=>
  cases u with
  |nil=>exact ih (by simpa using hw)
  |cons c x=>exact⟨c,x,v,by simp,h,k⟩
theorem St.one {L:List Nat->Prop}{u:List Nat} (h:L u):St L u:=by
 have:=St.cons h St.nil
 rwa [List.append_nil]at this
namespace Rx
def Lg:Rx->List Nat->Prop
 |eps=>fun w=>w=[]
 |lit f=>fun w=>∃b,w=[b]/\f b=true
 |cat a b=>Cc a.Lg b.Lg
 |alt a b=>fun w=>a.Lg w\/b.Lg w
 |star a=>St a.Lg
 |plus a=>Cc a.Lg (St a.Lg)
 |opt a=>fun w=>w=[]\/a.Lg w
def Acc (e:Rx) (o:Nat):Nat->List Nat->Prop
 |p,[]=>e.lst o p=true
 |p,b::w=>∃q,e.fol o p q=true/\e.has o q b=true/\Acc e o q w
def Mt (e:Rx) (o:Nat):List Nat->Prop
 |[]=>e.nul=true
 |b::w=>∃q,e.fst o q=true/\e.has o q b=true/\Acc e o q w
theorem acc_alt_l (a b:Rx) (o:Nat):∀(w:List Nat) (p:Nat),o<=p->p<o+a.sz->(Acc (alt a b) o p w<->Acc a o p w)
 |[],p,h1,h2=>by
  have:b.lst (o+a.sz) p=false:=lst_lt (by omega);simp[Acc,lst,this]
 |c::w,p,h1,h2=>by
  simp only[Acc];constructor
  ·rintro ⟨q,hq,hh,ha⟩;have e1:b.fol (o+a.sz) p q=false:=fol_lt (by omega);simp only[fol,e1,Bool.or_false]at hq;have rg:=fol_rng a o p q hq;have e2:b.has (o+a.sz) q c=false:=has_lt (by omega);simp only[has,e2,Bool.or_false]at hh;exact⟨q,hq,hh,(acc_alt_l a b o w q rg.2.2.1 rg.2.2.2).1 ha⟩
  ·rintro ⟨q,hq,hh,ha⟩;have rg:=fol_rng a o p q hq;exact⟨q,by simp[fol,hq],by simp[has,hh],(acc_alt_l a b o w q rg.2.2.1 rg.2.2.2).2 ha⟩
theorem acc_alt_r (a b:Rx) (o:Nat):∀(w:List Nat) (p:Nat),o+a.sz<=p->(Acc (alt a b) o p w<->Acc b (o+a.sz) p w)
 |[],p,h1=>by
  have:a.lst o p=false:=lst_lt (by omega);simp[Acc,lst,this]
 |c::w,p,h1=>by
  simp only[Acc];constructor
  ·rintro ⟨q,hq,hh,ha⟩;have e1:a.fol o p q=false:=fol_lt (by omega);simp only[fol,e1,Bool.false_or]at hq;have rg:=fol_rng b (o+a.sz) p q hq;have e2:a.has o q c=false:=has_lt (by omega);simp only[has,e2,Bool.false_or]at hh;exact⟨q,hq,hh,(acc_alt_r a b o w q rg.2.2.1).1 ha⟩
  ·rintro ⟨q,hq,hh,ha⟩;have rg:=fol_rng b (o+a.sz) p q hq;exact⟨q,by simp[fol,hq],by simp[has,hh],(acc_alt_r a b o w q rg.2.2.1).2 ha⟩
theorem acc_cat_r (a b:Rx) (o:Nat):∀(w:List Nat) (p:Nat),o+a.sz<=p->(Acc (cat a b) o p w<->Acc b (o+a.sz) p w)
 |[],p,h1=>by
  have:a.lst o p=false:=lst_lt (by omega);simp[Acc,lst,this]
 |c::w,p,h1=>by
  simp only[Acc];constructor
  ·rintro ⟨q,hq,hh,ha⟩;have e1:a.fol o p q=false:=fol_lt (by omega);have e3:a.lst o p=false:=lst_lt (by omega);simp only[fol,e1,e3,Bool.false_or,Bool.false_and,Bool.or_false]at hq;have rg:=fol_rng b (o+a.sz) p q hq;have e2:a.has o q c=false:=has_lt (by omega);simp only[has,e2,Bool.false_or]at hh;exact⟨q,hq,hh,(acc_cat_r a b o w q rg.2.2.1).1 ha⟩
  ·rintro ⟨q,hq,hh,ha⟩;have rg:=fol_rng b (o+a.sz) p q hq;exact⟨q,by simp[fol,hq],by simp[has,hh],(acc_cat_r a b o w q rg.2.2.1).2 ha⟩
theorem acc_cat_l (a b:Rx) (o:Nat):∀(w:List Nat) (p:Nat),o<=p->p<o+a.sz->(Acc (cat a b) o p w<->∃u v,w=u++v/\Acc a o p u/\Mt b (o+a.sz) v)
 |[],p,h1,h2=>by
  have:b.lst (o+a.sz) p=false:=lst_lt (by omega);simp only[Acc,lst,this,Bool.false_or,Bool.and_eq_true];constructor
  ·rintro ⟨h,k⟩;exact⟨[],[],rfl,k,h⟩
  ·rintro ⟨u,v,e,hu,hv⟩;obtain⟨rfl,rfl⟩:=List.append_eq_nil_iff.1 e.symm;exact⟨hv,hu⟩
 |c::w,p,h1,h2=>by
  constructor
  ·rintro ⟨q,hq,hh,ha⟩;have e1:b.fol (o+a.sz) p q=false:=fol_lt (by omega);simp only[fol,e1,Bool.or_false,Bool.or_eq_true,Bool.and_eq_true]at hq;rcases hq with hq|⟨hl,hf⟩
   ·have rg:=fol_rng a o p q hq;have e2:b.has (o+a.sz) q c=false:=has_lt (by omega);simp only[has,e2,Bool.or_false]at hh;obtain⟨u,v,e,hu,hv⟩:=(acc_cat_l a b o w q rg.2.2.1 rg.2.2.2).1 ha;exact⟨c::u,v,by simp[e],⟨q,hq,hh,hu⟩,hv⟩
   ·have rg:=fst_rng b (o+a.sz) q hf;have e2:a.has o q c=false:=has_lt (by omega);simp only[has,e2,Bool.false_or]at hh;exact⟨[],c::w,rfl,hl,⟨q,hf,hh,(acc_cat_r a b o w q rg.1).1 ha⟩⟩
  ·rintro ⟨u,v,e,hu,hv⟩;cases u with
   |nil=>
    rw[List.nil_append]at e;subst e;obtain⟨q,hf,hh,ha⟩:=hv;have rg:=fst_rng b (o+a.sz) q hf;have hl:a.lst o p=true:=hu;exact⟨q,by simp[fol,hl,hf],by simp[has,hh],(acc_cat_r a b o w q rg.1).2 ha⟩
   |cons c' u=>
    rw[List.cons_append]at e;cases e;obtain⟨q,hq,hh,ha⟩:=hu;have rg:=fol_rng a o p q hq;exact⟨q,by simp[fol,hq],by simp[has,hh],(acc_cat_l a b o _ q rg.2.2.1 rg.2.2.2).2 ⟨u,v,rfl,ha,hv⟩⟩
theorem acc_plus (a:Rx) (o:Nat):∀(w:List Nat) (p:Nat),Acc (plus a) o p w<->Acc (star a) o p w
 |[],p=>Iff.rfl
 |c::w,p=>by
  simp only[Acc];constructor
  ·rintro ⟨q,hq,hh,ha⟩;exact⟨q,hq,hh,(acc_plus a o w q).1 ha⟩
  ·rintro ⟨q,hq,hh,ha⟩;exact⟨q,hq,hh,(acc_plus a o w q).2 ha⟩
theorem acc_opt (a:Rx) (o:Nat):∀(w:List Nat) (p:Nat),Acc (opt a) o p w<->Acc a o p w
 |[],p=>Iff.rfl
 |c::w,p=>by
  simp only[Acc];constructor
  ·rintro ⟨q,hq,hh,ha⟩;exact⟨q,hq,hh,(acc_opt a o w q).1 ha⟩
  ·rintro ⟨q,hq,hh,ha⟩;exact⟨q,hq,hh,(acc_opt a o w q).2 ha⟩
theorem acc_star_of (a:Rx) (o:Nat) (ih:∀w,Mt a o w<->a.Lg w):∀(w:List Nat) (p:Nat),Acc (star a) o p w->∃u v,w=u++v/\Acc a o p u/\St a.Lg v
 |[],p,h=>⟨[],[],rfl,h,.nil⟩
 |c::w,p,⟨q,hq,hh,ha⟩=>by
  obtain⟨u,v,e,hu,hv⟩:=acc_star_of a o ih w q ha;simp only[fol,Bool.or_eq_true,Bool.and_eq_true]at hq;rcases hq with hq|⟨hl,hf⟩
  ·exact⟨c::u,v,by simp[e],⟨q,hq,hh,hu⟩,hv⟩
  ·refine⟨[],c::w,rfl,hl,?_⟩;rw[e,<-List.cons_append];exact .cons ((ih _).1 ⟨q,hf,hh,hu⟩) hv
theorem acc_star_to (a:Rx) (o:Nat) (ih:∀w,Mt a o w<->a.Lg w):∀(n:Nat) (u v:List Nat) (p:Nat),u.length+v.length<=n->Acc a o p u->St a.Lg v->Acc (star a) o p (u++v)
 |0,u,v,p,hn,hu,hv=>by
  have e1:u=[]:=List.eq_nil_of_length_eq_zero (by omega);have e2:v=[]:=List.eq_nil_of_length_eq_zero (by omega);subst e1;subst e2;exact hu
 |n+1,c::u,v,p,hn,⟨q,hq,hh,ha⟩,hv=>
  ⟨q,by simp[fol,hq],hh,acc_star_to a o ih n u v q (by simp at hn;omega) ha hv⟩
 |n+1,[],v,p,hn,hu,hv=>by
  by_cases e:v=[]
  ·subst e;exact hu
  ·obtain⟨c,x,y,e1,hx,hy⟩:=hv.split e;rw[e1]at hn ⊢;obtain⟨q,hf,hh,ha⟩:=(ih _).2 hx;have hl:a.lst o p=true:=hu;exact⟨q,by simp[fol,hl,hf],hh,acc_star_to a o ih n x y q (by simp at hn;omega) ha hy⟩
theorem mt_lg:∀(e:Rx) (o:Nat) (w:List Nat),Mt e o w<->e.Lg w
 |eps,o,[]=>by simp[Mt,nul,Lg]
 |eps,o,b::w=>by simp[Mt,fst,Lg]
 |lit f,o,[]=>by simp[Mt,nul,Lg]
 |lit f,o,b::w=>by
  simp only[Mt,fst,has,Lg];constructor
  ·rintro ⟨q,hq,hh,ha⟩;simp at hq;subst hq;simp at hh;cases w with
   |nil=>exact⟨b,rfl,hh⟩
   |cons c w=>obtain⟨_,h,_⟩:=ha;simp[fol]at h
  ·rintro ⟨c,e,hc⟩;cases e;exact⟨o,by simp,by simp[hc],by simp[Acc,lst]⟩
 |cat a b,o,[]=>by
  simp only[Mt,nul,Lg,Cc,Bool.and_eq_true];constructor
  ·rintro ⟨h,k⟩;exact⟨[],[],rfl,(mt_lg a o []).1 h,(mt_lg b o []).1 k⟩
  ·rintro ⟨u,v,e,hu,hv⟩;obtain⟨rfl,rfl⟩:=List.append_eq_nil_iff.1 e.symm;exact⟨(mt_lg a o []).2 hu,(mt_lg b o []).2 hv⟩
 |cat a b,o,c::w=>by
  constructor
  ·rintro ⟨q,hq,hh,ha⟩;simp only[fst,Bool.or_eq_true,Bool.and_eq_true]at hq;rcases hq with hq|⟨hn,hq⟩
   ·have rg:=fst_rng a o q hq;have e2:b.has (o+a.sz) q c=false:=has_lt (by omega);simp only[has,e2,Bool.or_false]at hh;obtain⟨u,v,e,hu,hv⟩:=(acc_cat_l a b o w q rg.1 rg.2).1 ha;exact⟨c::u,v,by simp[e],(mt_lg a o _).1 ⟨q,hq,hh,hu⟩,(mt_lg b _ v).1 hv⟩
   ·have rg:=fst_rng b (o+a.sz) q hq;have e2:a.has o q c=false:=has_lt (by omega);simp only[has,e2,Bool.false_or]at hh;exact⟨[],c::w,rfl,(mt_lg a o []).1 hn,(mt_lg b (o+a.sz) _).1 ⟨q,hq,hh,(acc_cat_r a b o w q rg.1).1 ha⟩⟩
  ·rintro ⟨u,v,e,hu,hv⟩;cases u with
   |nil=>
    rw[List.nil_append]at e;subst e;obtain⟨q,hf,hh,ha⟩:=(mt_lg b (o+a.sz) _).2 hv;have rg:=fst_rng b (o+a.sz) q hf;have hn:a.nul=true:=(mt_lg a o []).2 hu;exact⟨q,by simp[fst,hn,hf],by simp[has,hh],(acc_cat_r a b o w q rg.1).2 ha⟩
   |cons c' u=>
    rw[List.cons_append]at e;cases e;obtain⟨q,hf,hh,ha⟩:=(mt_lg a o _).2 hu;have rg:=fst_rng a o q hf;exact⟨q,by simp[fst,hf],by simp[has,hh],(acc_cat_l a b o _ q rg.1 rg.2).2 ⟨u,v,rfl,ha,(mt_lg b _ v).2 hv⟩⟩
 |alt a b,o,[]=>by
  have h1:=mt_lg a o [];have h2:=mt_lg b o [];simp only[Mt]at h1 h2;simp only[Mt,nul,Lg,Bool.or_eq_true,h1,h2]
 |alt a b,o,c::w=>by
  constructor
  ·rintro ⟨q,hq,hh,ha⟩;simp only[fst,Bool.or_eq_true]at hq;rcases hq with hq|hq
   ·have rg:=fst_rng a o q hq;have e2:b.has (o+a.sz) q c=false:=has_lt (by omega);simp only[has,e2,Bool.or_false]at hh;exact Or.inl ((mt_lg a o _).1 ⟨q,hq,hh,(acc_alt_l a b o w q rg.1 rg.2).1 ha⟩)
   ·have rg:=fst_rng b (o+a.sz) q hq;have e2:a.has o q c=false:=has_lt (by omega);simp only[has,e2,Bool.false_or]at hh;exact Or.inr ((mt_lg b (o+a.sz) _).1 ⟨q,hq,hh,(acc_alt_r a b o w q rg.1).1 ha⟩)
  ·rintro (h|h)
   ·obtain⟨q,hf,hh,ha⟩:=(mt_lg a o _).2 h;have rg:=fst_rng a o q hf;exact⟨q,by simp[fst,hf],by simp[has,hh],(acc_alt_l a b o w q rg.1 rg.2).2 ha⟩
   ·obtain⟨q,hf,hh,ha⟩:=(mt_lg b (o+a.sz) _).2 h;have rg:=fst_rng b (o+a.sz) q hf;exact⟨q,by simp[fst,hf],by simp[has,hh],(acc_alt_r a b o w q rg.1).2 ha⟩
 |star a,o,[]=>by
  simp only[Mt,nul,Lg];exact⟨fun _=>.nil,fun _=>trivial⟩
 |star a,o,c::w=>by
  have ih:=fun w=>mt_lg a o w
  constructor
  ·rintro ⟨q,hq,hh,ha⟩;obtain⟨u,v,e,hu,hv⟩:=acc_star_of a o ih w q ha;have:St a.Lg ((c::u)++v):=.cons ((ih _).1 ⟨q,hq,hh,hu⟩) hv;rw[e];exact this
  ·intro h;obtain⟨c',x,y,e1,hx,hy⟩:=St.split h (by simp);cases e1;obtain⟨q,hf,hh,ha⟩:=(ih _).2 hx;exact⟨q,hf,hh,acc_star_to a o ih _ x y q (Nat.le_refl _) ha hy⟩
 |plus a,o,[]=>by
  have h1:=mt_lg a o [];simp only[Mt]at h1;simp only[Mt,nul,Lg,Cc,h1];constructor
  ·intro h;exact⟨[],[],rfl,h,.nil⟩
  ·rintro ⟨u,v,e,hu,hv⟩;obtain⟨rfl,rfl⟩:=List.append_eq_nil_iff.1 e.symm;exact hu
 |plus a,o,c::w=>by
  have ih:=fun w=>mt_lg a o w
  constructor
  ·rintro ⟨q,hq,hh,ha⟩;obtain⟨u,v,e,hu,hv⟩:=acc_star_of a o ih w q ((acc_plus a o w q).1 ha);exact⟨c::u,v,by simp[e],(ih _).1 ⟨q,hq,hh,hu⟩,hv⟩
  ·rintro ⟨u,v,e,hu,hv⟩;have key:∀x y,c::w=x++y->x≠[]->a.Lg x->St a.Lg y->Mt (plus a) o (c::w):=fun x y e hx h k=>by
    cases x with
    |nil=>exact absurd rfl hx
    |cons c' x=>
     rw[List.cons_append]at e;cases e;obtain⟨q,hf,hh,ha⟩:=(ih _).2 h;exact⟨q,hf,hh,(acc_plus a o _ q).2 (acc_star_to a o ih _ x y q (Nat.le_refl _) ha k)⟩
   by_cases e0:u=[]
   ·subst e0;rw[List.nil_append]at e;obtain⟨c',x,y,e1,hx,hy⟩:=hv.split (by rw[<-e];simp);exact key (c'::x) y (by rw[e,e1];simp) (by simp) hx hy
   ·exact key u v e e0 hu hv
 |opt a,o,[]=>by simp[Mt,nul,Lg]
 |opt a,o,c::w=>by
  have ih:=mt_lg a o (c::w);simp only[Mt]at ih;simp only[Mt,Lg,fst,has,acc_opt,ih];simp
end Rx
end Go.Proofs.Ytoaaklhpmhjhkab
namespace Go.Proofs.Ytoaaklhpmhjhkab
theorem JL (s:ByteArray) (k:Nat) (h:k<s.size):s[k]=s.data.toList.getD k 0:=by
 have h':k<s.data.toList.length:=by simpa using h
 rw[List.getD_eq_getElem?_getD,List.getElem?_eq_getElem h'];rfl
theorem YJ {k:IntKind}{a b:Int} (h:a=b):Ending.returned (.int k a)=.returned (.int k b):=by rw[h]
theorem Yj {a b:Bool} (h:a=b):Ending.returned (.bool a)=.returned (.bool b):=by rw[h]
namespace Rf
def digit (c:Int):Bool:=decide (48<=c)&&decide (c<=57)
def hex (c:Int):Bool:=digit c || (decide (97<=c)&&decide (c<=102))
def has:List UInt8->Int->Bool
 |[],_=>false
 |x::r,c=>((x.toNat:Int)==c) || has r c
def number (c:Int):Int:=if digit c then c-48 else c-97+10
theorem number_lt (c:Int) (h:hex c=true):0<=number c/\number c<16:=by
 unfold number;cases hd:digit c
 ·have:97<=c/\c<=102:=by simpa[hex,hd]using h
  simp;omega
 ·have:48<=c/\c<=57:=by simpa[digit]using hd
  simp;omega
structure RS where
 ok:Bool
 m:Int
 bk:Int
 o:Int
def marks:List UInt8:=[92,46,91,93,40,41,123,125,124,42,43,63,94,45]
def notInner:List UInt8:=[91,93,94,45]
def to (m bk o:Int) (ok:Bool) (m':Int):RS:=⟨ok,if ok then m' else m,bk,o⟩
def inner (m bk o c m':Int):RS:=if c=92 then ⟨true,2,m',o⟩ else to m bk o (!has notInner c) m'
def outside (m bk o c:Int):RS:=
 if c=92 then ⟨true,2,1,o⟩
 else if c=91 then ⟨true,9,bk,o⟩
 else if c=40 then ⟨true,0,bk,o+1⟩
 else if c=41 then to m bk (o-1) (decide (1<=o)) 1
 else if c=124 then ⟨true,0,bk,o⟩
 else if c=42\/c=43\/c=63 then ⟨m==1,m,bk,o⟩
 else if c=123 then to m bk o (m==1) 5
 else if c=93\/c=125 then ⟨false,m,bk,o⟩
 else ⟨true,1,bk,o⟩
def rest (m bk o c:Int):RS:=
 if m=9 then (if c=94 then ⟨true,10,bk,o⟩ else inner m bk o c 11)
 else if m=10 then inner m bk o c 11
 else if m=11 then (if c=45 then ⟨true,12,bk,o⟩ else if c=93 then ⟨true,1,bk,o⟩ else inner m bk o c 11)
 else if m=12 then inner m bk o c 13
 else if m=13 then (if c=93 then ⟨true,1,bk,o⟩ else inner m bk o c 11)
 else outside m bk o c
def read (m bk o c:Int):RS:=
 if m=2 then (if c=120 then ⟨true,3,bk,o⟩ else to m bk o (c==110 || c==116 || has marks c) bk)
 else if m=3 then to m bk o (hex c) 4
 else if m=4 then to m bk o (hex c) bk
 else if m=5 then to m bk o (digit c) 6
 else if m=6 then (if c=44 then ⟨true,7,bk,o⟩ else to m bk o (c==125) 1)
 else if m=7 then to m bk o (digit c) 8
 else if m=8 then to m bk o (c==125) 1
 else rest m bk o c
def formFrom (m bk o:Int) (i:Nat):List UInt8->Int
 |[]=>if 0<o\/1<m then i else -1
 |c::r=>let x:=read m bk o c.toNat;if x.ok then formFrom x.m x.bk x.o (i+1) r else i
def form (l:List UInt8):Int:=formFrom 0 0 0 0 l
def deepFrom (m bk o:Int) (i:Nat):List UInt8->Int
 |[]=>-1
 |c::r=>let x:=read m bk o c.toNat;if 6<x.o then i else deepFrom x.m x.bk x.o (i+1) r
def deep (l:List UInt8):Int:=deepFrom 0 0 0 0 l
end Rf
open Go.RowKit
theorem Pj (c:UInt8):(c.toNat:Int)<256:=by have:=c.toNat_lt;omega
theorem Lb (c:UInt8):wrap64 (c.toNat:Int)=c.toNat:=by
 have:=c.toNat_lt;unfold wrap64;omega
namespace Rf
def one:List UInt8->Option (Int × Nat)
 |[]=>none
 |c::r=>
  if c=92 then
   match r with
   |[]=>none
   |d::r'=>
    if d=110 then some (10,2) else if d=116 then some (9,2)
    else if d=120 then
     match r' with
     |x::y::_=>if hex x.toNat&&hex y.toNat then some (number x.toNat*16+number y.toNat,4) else none
     |_=>none
    else some (d.toNat,2)
  else some (c.toNat,1)
def items:Nat->List UInt8->Nat->Int->(Nat->Bool)->Option (Nat × Int × (Nat->Bool))
 |0,_,_,_,_=>none
 |f+1,l,i,falls,inn=>
  match l with
  |[]=>none
  |c::_=>
   if c=93 then some (i,falls,inn)
   else match one l with
    |none=>none
    |some (a,n)=>
     match l.drop n with
     |[]=>none
     |d::l'=>
      if d=45 then
       match one l' with
       |none=>none
       |some (b,n')=>items f (l'.drop n') (i+n+1+n') (if b<a/\falls<0 then i else falls) (fun k=>inn k || (decide (a<=k)&&decide ((k:Int)<=b)))
      else items f (d::l') (i+n) falls (fun k=>inn k || (decide (a<=k)&&decide ((k:Int)<=a)))
def set (l:List UInt8) (i:Nat):Option (Nat × Int × (Nat->Bool)):=
 match l with
 |[]=>none
 |c::r=>
  if c=94 then (items (r.length+1) r (i+2) (-1) (fun _=>false)).map fun x=>(x.1+1,x.2.1,fun k=>x.2.2 k != true)
  else (items (r.length+2) (c::r) (i+1) (-1) (fun _=>false)).map fun x=>(x.1+1,x.2.1,fun k=>x.2.2 k != false)
variable {n : Nat}
theorem one_bd {l:List UInt8}{v:Int} (h:one l=some (v,n)):0<=v/\v<256/\1<=n/\n<=4:=by
 unfold one at h;rcases l with _|⟨c,r⟩
 ·cases h
 simp only at h;split at h
 ·rcases r with _|⟨d,r'⟩
  ·cases h
  simp only at h;split at h
  ·simp at h;omega
  split at h
  ·simp at h;omega
  split at h
  ·rcases r' with _|⟨x,_|⟨y,r''⟩⟩
   ·cases h
   ·cases h
   simp only at h;split at h
   ·rename_i hxy;rw[Bool.and_eq_true]at hxy;have h1:=number_lt _ hxy.1;have h2:=number_lt _ hxy.2;simp only[Option.some.injEq,Prod.mk.injEq]at h;omega
   ·cases h
  ·have:=Pj d;simp only[Option.some.injEq,Prod.mk.injEq]at h;omega
 ·have:=Pj c;simp only[Option.some.injEq,Prod.mk.injEq]at h;omega
def valueFrom (p:List UInt8):Nat->Nat->Option Int
 |0,_=>none
 |f+1,i=>
  match p.drop i with
  |[]=>some (-1)
  |c::r=>
   if c=92 then
    match one (c::r)with
    |none=>none
    |some (_,n)=>valueFrom p f (i+n)
   else if c=91 then
    match set r i with
    |none=>none
    |some (j,fa,_)=>if 0<=fa then some fa else valueFrom p f j
   else if c=123 then
    match r with
    |x::y::r'=>
     if y=44 then
      match r' with
      |z::_=>if z.toNat<x.toNat then some i else valueFrom p f (i+1)
      |[]=>none
     else valueFrom p f (i+1)
    |_=>none
   else valueFrom p f (i+1)
def cntTo (f:Nat->Bool):Nat->Nat
 |0=>0
 |k+1=>cntTo f k+if f k then 1 else 0
def emptyFrom (p:List UInt8):Nat->Nat->Option Int
 |0,_=>none
 |f+1,i=>
  match p.drop i with
  |[]=>some (-1)
  |c::r=>
   if c=92 then
    match one (c::r)with
    |none=>none
    |some (_,n)=>emptyFrom p f (i+n)
   else if c=91 then
    match set r i with
    |none=>none
    |some (j,_,inn)=>if cntTo inn 256=0 then some i else emptyFrom p f j
   else emptyFrom p f (i+1)
variable {fa fb : Int}{i j : Nat}{inb inn : Nat → Bool}
theorem items_ge {l:List UInt8}{f:Nat} (h:items f l i fa inn=some (j,fb,inb)):i<=j:=by
 induction f generalizing l i fa inn with
 |zero=>simp[items]at h
 |succ f ih=>
  unfold items at h;rcases l with _|⟨c,r⟩
  ·cases h
  simp only at h;split at h
  ·simp only[Option.some.injEq,Prod.mk.injEq]at h;omega
  rcases ho:one (c::r)with _|⟨a,n⟩
  ·rw[ho]at h;cases h
  rw[ho]at h;simp only at h;rcases hd:(c::r).drop n with _|⟨d,l'⟩
  ·rw[hd]at h;cases h
  rw[hd]at h;simp only at h;split at h
  ·rcases ho2:one l' with _|⟨b,n'⟩
   ·rw[ho2]at h;cases h
   rw[ho2]at h;have:=ih h;omega
  ·have:=ih h;omega
theorem set_ge {l:List UInt8} (h:set l i=some (j,fb,inb)):i+2<=j:=by
 unfold set at h;rcases l with _|⟨c,r⟩
 ·cases h
 simp only at h;split at h
 ·rcases hx:items (r.length+1) r (i+2) (-1) (fun _=>false)with _|⟨a,b,d⟩
  ·rw[hx]at h;cases h
  rw[hx]at h;have:=items_ge hx;simp only[Option.map_some,Option.some.injEq,Prod.mk.injEq]at h;omega
 ·rcases hx:items (r.length+2) (c::r) (i+1) (-1) (fun _=>false)with _|⟨a,b,d⟩
  ·rw[hx]at h;cases h
  rw[hx]at h;have:=items_ge hx;simp only[Option.map_some,Option.some.injEq,Prod.mk.injEq]at h;omega
end Rf
def XV (vs:Nat->Int):Nat->Int
 |0=>0
 |n+1=>XV vs n+vs n
namespace Rf
def groupFrom (p:List UInt8):Nat->Nat->Int->Option Nat
 |0,_,_=>none
 |f+1,i,o=>
  match p.drop i with
  |[]=>some 1
  |c::r=>
   if c=92 then
    match one (c::r)with
    |none=>none
    |some (_,n)=>groupFrom p f (i+n) o
   else if c=91 then
    match set r i with
    |none=>none
    |some (j,_,_)=>groupFrom p f j o
   else if c=40 then groupFrom p f (i+1) (o+1)
   else if c=41 then (if o-1=0 then some (i+1) else groupFrom p f (i+1) (o-1))
   else groupFrom p f (i+1) o
def atom (l:List UInt8):Option Nat:=
 match l with
 |[]=>none
 |c::r=>
  if c=92 then (one (c::r)).map (·.2)
  else if c=91 then (set r 0).map (·.1)
  else if c=40 then groupFrom (c::r) (r.length+2) 0 0
  else some 1
def closeFrom (p:List UInt8):Nat->Nat->Option Nat
 |0,_=>none
 |f+1,i=>
  match p.drop i with
  |[]=>none
  |c::_=>if c=125 then some (i+1) else closeFrom p f (i+1)
def suffixed (p:List UInt8) (i:Nat):Option Nat:=
 match p.drop i with
 |[]=>none
 |c::_=>if c=123 then closeFrom p (p.length+1) i else some (i+1)
def suffixes:List UInt8:=[42,43,63,123]
def pieceFrom (p:List UInt8):Nat->Nat->Option Nat
 |0,_=>none
 |f+1,n=>
  match p.drop n with
  |[]=>some n
  |c::_=>
   if has suffixes c.toNat then
    match suffixed p n with
    |none=>none
    |some n'=>pieceFrom p f n'
   else some n
def piece (l:List UInt8):Option Nat:=
 match atom l with
 |none=>none
 |some n=>pieceFrom l (l.length+1) n
def splitFrom (p:List UInt8):Nat->Nat->Nat->Option Nat
 |0,_,_=>none
 |f+1,n,cut=>
  match p.drop n with
  |[]=>some cut
  |_::_=>
   match suffixed p n with
   |none=>none
   |some n'=>splitFrom p f n' n
def split (l:List UInt8):Option Nat:=
 match atom l with
 |none=>none
 |some n=>splitFrom l (l.length+1) n n
def most:List UInt8->Option Int
 |_::x::y::r=>
  if digit x.toNat then
   if y=44 then
    match r with
    |z::_=>if digit z.toNat then some ((z.toNat:Int)-48) else none
    |[]=>none
   else some ((x.toNat:Int)-48)
  else none
 |_=>none
def cnt:Nat->Bool->List UInt8->Option Int
 |0,_,_=>none
 |f+1,true,l=>
  match l with
  |[]=>some 0
  |c::r=>
   if c=124 then cnt f true r
   else match piece (c::r)with
    |none=>none
    |some k=>
     match cnt f false ((c::r).take k),cnt f true ((c::r).drop k)with
     |some a,some b=>some (a+b)
     |_,_=>none
 |f+1,false,l=>
  match split l with
  |none=>none
  |some cut=>
   match l.drop cut with
   |u::us=>
    match cnt f false (l.take cut)with
    |none=>none
    |some n=>if u=123 then (most (u::us)).map (n*·) else some n
   |[]=>
    match l with
    |[]=>none
    |c::r=>if c=40 then (if r.length=0 then none else cnt f true (r.take (r.length-1))) else some 1
variable {n : Nat}
theorem one_le {l:List UInt8}{v:Int} (h:one l=some (v,n)):n<=l.length:=by
 unfold one at h;rcases l with _|⟨c,r⟩
 ·cases h
 simp only at h;split at h
 ·rcases r with _|⟨d,r'⟩
  ·cases h
  simp only at h;split at h
  ·simp at h;simp;omega
  split at h
  ·simp at h;simp;omega
  split at h
  ·rcases r' with _|⟨x,_|⟨y,r''⟩⟩
   ·cases h
   ·cases h
   simp only at h;split at h
   ·simp only[Option.some.injEq,Prod.mk.injEq]at h;simp;omega
   ·cases h
  ·simp only[Option.some.injEq,Prod.mk.injEq]at h;simp;omega
 ·simp only[Option.some.injEq,Prod.mk.injEq]at h;simp;omega
variable {fa fb : Int}{i j : Nat}{inb inn : Nat → Bool}
theorem items_lt {l:List UInt8}{f:Nat} (h:items f l i fa inn=some (j,fb,inb)):j<i+l.length:=by
 induction f generalizing l i fa inn with
 |zero=>simp[items]at h
 |succ f ih=>
  unfold items at h;rcases l with _|⟨c,r⟩
  ·cases h
  simp only at h;split at h
  ·simp only[Option.some.injEq,Prod.mk.injEq]at h;simp;omega
  rcases ho:one (c::r)with _|⟨a,n⟩
  ·rw[ho]at h;cases h
  rw[ho]at h;simp only at h;have hn:=one_le ho;rcases hd:(c::r).drop n with _|⟨d,l'⟩
  ·rw[hd]at h;cases h
  have hl:(d::l').length=(c::r).length-n:=by rw[<-hd];simp
  rw[hd]at h;simp only at h;split at h
  ·rcases ho2:one l' with _|⟨b,n'⟩
   ·rw[ho2]at h;cases h
   rw[ho2]at h;have hn':=one_le ho2;have:=ih h;simp only[List.length_drop,List.length_cons]at *;omega
  ·have:=ih h;simp only[List.length_cons]at *;omega
def WrongIs (l:List UInt8) (e a:Int):Prop:=
 (40<l.length/\e=2/\a=0)\/(l.length<=40 /\
  ((0<=form l/\e=3/\a=form l)\/(form l<0 /\
   ((0<=deep l/\e=4/\a=deep l)\/(deep l<0/\∃f v,valueFrom l f 0=some v /\
    ((0<=v/\e=5/\a=v)\/(v<0/\∃g u,emptyFrom l g 0=some u/\((0<=u/\e=6/\a=u)\/(u<0/\e=0/\a=0)))))))))
end Rf
def Y5 (s:ByteArray) (i:Int):Int:=if 0<=i/\i<s.size then ((s.data.toList.getD i.toNat 0).toNat:Int) else -1
theorem L7 {s:ByteArray}{i:Int} (h:¬(0<=i/\i<s.size)):Y5 s i=-1:=by unfold Y5;rw[if_neg h]
theorem Ph {s:ByteArray}{i:Int} (h:i.toNat<s.size) (h0:0<=i):Y5 s i=(s[i.toNat].toNat:Int):=by
 unfold Y5;rw[if_pos ⟨h0,by omega⟩,JL s _ h]
theorem QY (s:ByteArray) (i:Int):-1<=Y5 s i/\Y5 s i<256:=by
 unfold Y5;split
 ·have:=(s.data.toList.getD i.toNat 0).toNat_lt;omega
 ·omega
namespace Pg
structure R where
 v:Int
 n:Int
 ok:Bool
def isMark (b:Int):Bool:=b==92 || b==46 || b==91 || b==93 || b==40 || b==41 || b==123 || b==125 || b==124 || b==42 || b==43 || b==63 || b==94 || b==45
def isInner (b:Int):Bool:=!(b==-1 || b==92 || b==91 || b==93 || b==94 || b==45)
def digitValue (b:Int):Int:=if 48<=b/\b<=57 then b-48 else -1
def hexValue (b:Int):Int:=if 97<=b/\b<=102 then b-97+10 else digitValue b
def kindOf (b:Int):Int:=
 if b=-1\/b=93\/b=125 then 0 else if b=40 then 2 else if b=41 then 3 else if b=124 then 4
 else if b=42 then 5 else if b=43 then 6 else if b=63 then 7 else if b=123 then 8 else 1
def isSuffix (k:Int):Bool:=k==5 || k==6 || k==7 || k==8
def opn (kd:Int):Int:=if kd=2 then 1 else if kd=3 then -1 else 0
theorem opn_bd (kd:Int):-1<=opn kd/\opn kd<=1:=by
 unfold opn
 repeat' split
 all_goals omega
def endsPiece (k:Int):Bool:=k==1 || k==3 || isSuffix k
def canStand (k before op:Int):Bool:=if k=0 then false else if k=3 then decide (0<op) else if isSuffix k then endsPiece before else true
def capped (n:Int):Int:=if 96<n then 97 else n
def readHex (g:Int->Int) (i:Int):R:=
 if hexValue (g i)<0 then ⟨0,i,false⟩
 else if hexValue (g (i+1))<0 then ⟨0,i+1,false⟩
 else ⟨hexValue (g i)*16+hexValue (g (i+1)),i+2,true⟩
def readEscape (g:Int->Int) (i:Int):R:=
 if g (i+1)=110 then ⟨10,i+2,true⟩ else if g (i+1)=116 then ⟨9,i+2,true⟩
 else if g (i+1)=120 then readHex g (i+2)
 else if isMark (g (i+1)) then ⟨g (i+1),i+2,true⟩ else ⟨0,i+1,false⟩
def readOne (g:Int->Int) (i:Int):R:=
 if g i=92 then readEscape g i else if isInner (g i) then ⟨g i,i+1,true⟩ else ⟨0,i,false⟩
structure I where
 lo:Int
 hi:Int
 n:Int
 ok:Bool
def readItem (g:Int->Int) (i:Int):I:=
 if (readOne g i).ok then
  (if g (readOne g i).n=45 then ⟨(readOne g i).v,(readOne g ((readOne g i).n+1)).v,(readOne g ((readOne g i).n+1)).n,(readOne g ((readOne g i).n+1)).ok⟩
  else ⟨(readOne g i).v,(readOne g i).v,(readOne g i).n,true⟩)
 else ⟨0,0,(readOne g i).n,false⟩
def readMost (g:Int->Int) (i least:Int):R:=
 if g i=125 then ⟨least,i+1,true⟩
 else if g i=44 then
  (if digitValue (g (i+1))<0 then ⟨0,i+1,false⟩
  else if g (i+2)=125 then ⟨digitValue (g (i+1)),i+3,true⟩ else ⟨0,i+2,false⟩)
 else ⟨0,i,false⟩
theorem hexValue_bd (b:Int):-1<=hexValue b/\hexValue b<16:=by
 unfold hexValue digitValue;split
 ·omega
 ·split<;>omega
theorem digitValue_bd (b:Int):-1<=digitValue b/\digitValue b<10:=by
 unfold digitValue;split<;>omega
theorem readHex_bd (g:Int->Int) (i:Int):0<=(readHex g i).v/\(readHex g i).v<256/\i<=(readHex g i).n/\(readHex g i).n<=i+2:=by
 have h1:=hexValue_bd (g i);have h2:=hexValue_bd (g (i+1));unfold readHex;split
 ·simp;omega
 ·split
  ·simp;omega
  ·simp;omega
theorem readEscape_bd (g:Int->Int) (i:Int) (hg:∀j,-1<=g j/\g j<256):0<=(readEscape g i).v/\(readEscape g i).v<256/\i<(readEscape g i).n/\(readEscape g i).n<=i+4:=by
 have h:=hg (i+1);have h2:=readHex_bd g (i+2);unfold readEscape;split
 ·simp;omega
 split
 ·simp;omega
 split
 ·omega
 split
 ·rename_i hm;have:0<=g (i+1):=by
   simp only[isMark,Bool.or_eq_true,beq_iff_eq]at hm;omega
  simp;omega
 ·simp;omega
theorem readOne_bd (g:Int->Int) (i:Int) (hg:∀j,-1<=g j/\g j<256):0<=(readOne g i).v/\(readOne g i).v<256/\i<=(readOne g i).n/\(readOne g i).n<=i+4/\((readOne g i).ok=true->i<(readOne g i).n):=by
 have h:=hg i;have h2:=readEscape_bd g i hg;unfold readOne;split
 ·omega
 split
 ·rename_i hm;have:g i≠-1:=by
   intro e;rw[e]at hm;simp[isInner]at hm
  simp;omega
 ·simp;omega
theorem readItem_bd (g:Int->Int) (i:Int) (hg:∀j,-1<=g j/\g j<256):i<=(readItem g i).n/\(readItem g i).n<=i+9/\((readItem g i).ok=true->i<(readItem g i).n/\0<=(readItem g i).lo/\(readItem g i).lo<256/\0<=(readItem g i).hi/\(readItem g i).hi<256):=by
 have h:=readOne_bd g i hg;have h2:=readOne_bd g ((readOne g i).n+1) hg;unfold readItem;split
 ·rename_i hok;have h3:=h.2.2.2.2 hok;split
  ·simp;omega
  ·simp;omega
 ·simp;omega
structure S where
 n:Int
 ok:Bool
 f:Nat->Bool
 fa:Int
def withF (f:Nat->Bool) (a b:Int):Nat->Bool:=fun k=>f k || (decide (a<=(k:Int))&&decide ((k:Int)<=b))
def setLoop (g:Int->Int) (len first:Int):Nat->Int->Int->(Nat->Bool)->S
 |0,e,fa,f=>⟨e,false,f,fa⟩
 |u+1,e,fa,f=>
  if e<len then
   (if g e=93/\first<e then ⟨e+1,true,f,fa⟩
   else if (readItem g e).ok then setLoop g len first u (readItem g e).n (if (readItem g e).hi<(readItem g e).lo/\fa=-1 then e else fa) (withF f (readItem g e).lo (readItem g e).hi)
   else ⟨(readItem g e).n,false,f,fa⟩)
  else ⟨len,false,f,fa⟩
def readSet (g:Int->Int) (len i:Int):S:=
 if g (i+1)=94 then (let r:=setLoop g len (i+2) (len.toNat+1) (i+2) (-1) (fun _=>false);⟨r.n,r.ok,fun k=>!r.f k,r.fa⟩)
 else setLoop g len (i+1) (len.toNat+1) (i+1) (-1) (fun _=>false)
end Pg
namespace Pg
def readCount (g:Int->Int) (i:Int):R:=if digitValue (g (i+1))<0 then ⟨0,i+1,false⟩ else readMost g (i+2) (digitValue (g (i+1)))
def countFalls (g:Int->Int) (i:Int):Int:=if (readCount g i).v<digitValue (g (i+1)) then i else -1
def readPlace (g:Int->Int) (len i:Int):S:=
 if g i=91 then readSet g len i
 else if g i=46 then ⟨i+1,true,fun k=>!(withF (fun _=>false) 10 10 k),-1⟩
 else if g i=92 then ⟨(readEscape g i).n,(readEscape g i).ok,withF (fun _=>false) (readEscape g i).v (readEscape g i).v,-1⟩
 else ⟨i+1,true,withF (fun _=>false) (g i) (g i),-1⟩
structure T where
 n:Int
 ok:Bool
 f:Nat->Bool
 mo:Int
 fa:Int
def readPart (g:Int->Int) (len i kind:Int):T:=
 if kind=1 then ⟨(readPlace g len i).n,(readPlace g len i).ok,(readPlace g len i).f,0,(readPlace g len i).fa⟩
 else if kind=8 then ⟨(readCount g i).n,(readCount g i).ok,fun _=>false,(readCount g i).v,countFalls g i⟩
 else ⟨i+1,true,fun _=>false,0,-1⟩
structure Pt where
 kd:Int
 pl:Int
 f:Nat->Bool
 le:Int
 mo:Int
 fa:Int
def Pt.strip (p:Pt):Pt:={ p with le:=0 }
structure PR where
 n:Int
 ok:Bool
 ps:List Pt
def opens (kd op:Int):Int:=if kd=2 then op+1 else if kd=3 then op-1 else op
theorem opens_opn (kd op:Int):opens kd op=op+opn kd:=by
 unfold opens opn;repeat' split
 all_goals omega
def partsFrom (g:Int->Int) (len:Int):Nat->Int->Int->Int->List Pt->PR
 |0,_,_,i,_=>⟨i,false,[]⟩
 |u+1,before,op,i,acc=>
  if i<len then
   (if canStand (kindOf (g i)) before op then
    (if (readPart g len i (kindOf (g i))).ok then partsFrom g len u (kindOf (g i)) (opens (kindOf (g i)) op) (readPart g len i (kindOf (g i))).n (acc++[⟨kindOf (g i),i,(readPart g len i (kindOf (g i))).f,0,(readPart g len i (kindOf (g i))).mo,(readPart g len i (kindOf (g i))).fa⟩])
    else ⟨(readPart g len i (kindOf (g i))).n,false,[]⟩)
   else ⟨i,false,[]⟩)
  else ⟨i,op==0,acc⟩
def readParts (g:Int->Int) (len:Int):PR:=partsFrom g len (len.toNat+1) 0 0 0 []
theorem setLoop_bd (g:Int->Int) (len first:Int) (hg:∀j,-1<=g j/\g j<256):∀(u:Nat) (e fa:Int) (f:Nat->Bool),(setLoop g len first u e fa f).ok=true->e<(setLoop g len first u e fa f).n/\(setLoop g len first u e fa f).n<=len:=by
 intro u
 induction u with
 |zero=>intro e fa f h;simp[setLoop]at h
 |succ u ih=>
  intro e fa f h;have hi:=readItem_bd g e hg;unfold setLoop at h ⊢;split
  ·rename_i hlt;rw[if_pos hlt]at h;split
   ·simp;omega
   ·rename_i hc;rw[if_neg hc]at h;split
    ·rename_i hok;rw[if_pos hok]at h;have:=ih _ _ _ h;have:=hi.2.2 hok;omega
    ·rename_i hok;rw[if_neg hok]at h;simp at h
  ·rename_i hlt;rw[if_neg hlt]at h;simp at h
theorem readSet_bd (g:Int->Int) (len i:Int) (hg:∀j,-1<=g j/\g j<256) (h:(readSet g len i).ok=true):i<(readSet g len i).n/\(readSet g len i).n<=len:=by
 unfold readSet at h ⊢;split
 ·rename_i hc;rw[if_pos hc]at h;have:=setLoop_bd g len (i+2) hg _ _ _ _ h;simp only;omega
 ·rename_i hc;rw[if_neg hc]at h;have:=setLoop_bd g len (i+1) hg _ _ _ _ h;omega
theorem readPart_bd (g:Int->Int) (len i kd:Int) (hg:∀j,-1<=g j/\g j<256) (hl:len<=40) (h:(readPart g len i kd).ok=true):i<(readPart g len i kd).n/\(readPart g len i kd).n<=i+5+40\/(readPart g len i kd).n<=40/\i<(readPart g len i kd).n:=by
 have he:=readEscape_bd g i hg;unfold readPart at h ⊢;split
 ·rename_i hc;rw[if_pos hc]at h;simp only at h ⊢;unfold readPlace at h ⊢;split
  ·rename_i h1;rw[if_pos h1]at h;have:=readSet_bd g len i hg h;omega
  ·rename_i h1;rw[if_neg h1]at h;split
   ·simp;omega
   ·split
    ·simp;omega
    ·simp;omega
 ·split
  ·simp only;unfold readCount readMost
   repeat' split
   all_goals (simp;omega)
  ·simp;omega
/-! What looks XK the parts. -/
def tooDeep:List Pt->Int->Int
 |[],_=>-1
 |p::r,op=>if 6<opens p.kd op then p.pl else tooDeep r (opens p.kd op)
def falling:List Pt->Int
 |[]=>-1
 |p::r=>if p.fa=-1 then falling r else p.fa
def matchless:List Pt->Int
 |[]=>-1
 |p::r=>if p.kd=1/\Rf.cntTo p.f 256=0 then p.pl else matchless r
structure C where
 ah:Int
 la:Int
 st:List Int
def cStep (c:C) (p:Pt):C:=
 if p.kd=1 then ⟨capped (c.ah+c.la),1,c.st⟩
 else if p.kd=2 then ⟨0,0,capped (c.ah+c.la)::c.st⟩
 else if p.kd=3 then
  (match c.st with
  |[]=>⟨0,capped (c.ah+c.la),[]⟩
  |x::r=>⟨x,capped (c.ah+c.la),r⟩)
 else if p.kd=4 then ⟨capped (c.ah+c.la),0,c.st⟩
 else if p.kd=8 then ⟨c.ah,capped (c.la*p.mo),c.st⟩
 else c
def cRun:List Pt->C->C
 |[],c=>c
 |p::r,c=>cRun r (cStep c p)
def countPlaces (ps:List Pt):Int:=capped ((cRun ps ⟨0,0,[]⟩).ah+(cRun ps ⟨0,0,[]⟩).la)
theorem tooDeep_strip (ps:List Pt):∀op,tooDeep (ps.map Pt.strip) op=tooDeep ps op:=by
 induction ps with
 |nil=>intro op;rfl
 |cons p r ih=>intro op;simp only[List.map_cons,tooDeep,Pt.strip];rw[ih]
theorem falling_strip (ps:List Pt):falling (ps.map Pt.strip)=falling ps:=by
 induction ps with
 |nil=>rfl
 |cons p r ih=>simp only[List.map_cons,falling,Pt.strip];rw[ih]
theorem matchless_strip (ps:List Pt):matchless (ps.map Pt.strip)=matchless ps:=by
 induction ps with
 |nil=>rfl
 |cons p r ih=>simp only[List.map_cons,matchless,Pt.strip];rw[ih]
theorem cRun_strip (ps:List Pt):∀c,cRun (ps.map Pt.strip) c=cRun ps c:=by
 induction ps with
 |nil=>intro c;rfl
 |cons p r ih=>intro c;simp only[List.map_cons,cRun];rw[ih];rfl
theorem countPlaces_strip (ps:List Pt):countPlaces (ps.map Pt.strip)=countPlaces ps:=by unfold countPlaces;rw[cRun_strip]
def wrong (g:Int->Int) (len:Int):Int × Int:=
 if 40<len then (2,0)
 else if (readParts g len).ok then
  (if tooDeep (readParts g len).ps 0=-1 then
   (if falling (readParts g len).ps=-1 then
    (if matchless (readParts g len).ps=-1 then (0,0) else (6,matchless (readParts g len).ps))
   else (5,falling (readParts g len).ps))
  else (4,tooDeep (readParts g len).ps 0))
 else (3,(readParts g len).n)
theorem readMost_bd (g:Int->Int) (i l:Int) (h0:0<=l) (h9:l<=9):0<=(readMost g i l).v/\(readMost g i l).v<=9:=by
 have:=digitValue_bd (g (i+1));unfold readMost
 repeat' split
 all_goals (simp;try omega)
theorem readPart_mo (g:Int->Int) (len i kd:Int):0<=(readPart g len i kd).mo/\(readPart g len i kd).mo<=9:=by
 unfold readPart;split
 ·simp
 split
 ·simp only;unfold readCount;have:=digitValue_bd (g (i+1));split
  ·simp
  ·exact readMost_bd _ _ _ (by omega) (by omega)
 ·simp
theorem partsFrom_mo (g:Int->Int) (len:Int):∀(u:Nat) (b op i:Int) (acc:List Pt),(∀p∈acc,0<=p.mo/\p.mo<=9)->∀p∈(partsFrom g len u b op i acc).ps,0<=p.mo/\p.mo<=9:=by
 intro u
 induction u with
 |zero=>intro b op i acc _ p hp;simp[partsFrom]at hp
 |succ u ih=>
  intro b op i acc hacc p hp;unfold partsFrom at hp;split at hp
  ·split at hp
   ·split at hp
    ·refine ih _ _ _ _ ?_ p hp;intro q hq;rcases List.mem_append.1 hq with h|h
     ·exact hacc q h
     ·simp only[List.mem_singleton]at h;subst h;exact readPart_mo _ _ _ _
    ·simp at hp
   ·simp at hp
  ·exact hacc p hp
theorem readParts_mo (g:Int->Int) (len:Int):∀p∈(readParts g len).ps,0<=p.mo/\p.mo<=9:=partsFrom_mo g len _ _ _ _ _ (by simp)
theorem capped_le (n:Int) (h:0<=n):0<=capped n/\capped n<=97:=by unfold capped;split<;>omega
end Pg
end Go.Proofs.Ytoaaklhpmhjhkab
