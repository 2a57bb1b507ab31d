import Derived.WalkKit
import Derived.Test.YtoaaklhpmhjhkabGreatSk
set_option maxRecDepth 100000
set_option maxHeartbeats 4000000
set_option linter.all false
namespace Go.Proofs.YtoaaklhpmhjhkabGreat
section
inductive Rx where
 |eps
 |lit (f:Nat->Bool)
 |cat (a b:Rx)
 |alt (a b:Rx)
 |star (a:Rx)
 |plus (a:Rx)
 |opt (a:Rx)
namespace Rx
def sz:Rx->Nat
 |eps=>0
 |lit _=>1
 |cat a b=>a.sz+b.sz
 |alt a b=>a.sz+b.sz
 |star a=>a.sz
 |plus a=>a.sz
 |opt a=>a.sz
def nul:Rx->Bool
 |eps=>true
 |lit _=>false
 |cat a b=>a.nul&&b.nul
 |alt a b=>a.nul || b.nul
 |star _=>true
 |plus a=>a.nul
 |opt _=>true
def fst:Rx->Nat->Nat->Bool
 |eps,_,_=>false
 |lit _,o,p=>p==o
 |cat a b,o,p=>a.fst o p || (a.nul&&b.fst (o+a.sz) p)
 |alt a b,o,p=>a.fst o p || b.fst (o+a.sz) p
 |star a,o,p=>a.fst o p
 |plus a,o,p=>a.fst o p
 |opt a,o,p=>a.fst o p
def lst:Rx->Nat->Nat->Bool
 |eps,_,_=>false
 |lit _,o,p=>p==o
 |cat a b,o,p=>b.lst (o+a.sz) p || (b.nul&&a.lst o p)
 |alt a b,o,p=>a.lst o p || b.lst (o+a.sz) p
 |star a,o,p=>a.lst o p
 |plus a,o,p=>a.lst o p
 |opt a,o,p=>a.lst o p
def fol:Rx->Nat->Nat->Nat->Bool
 |eps,_,_,_=>false
 |lit _,_,_,_=>false
 |cat a b,o,p,q=>a.fol o p q || b.fol (o+a.sz) p q || (a.lst o p&&b.fst (o+a.sz) q)
 |alt a b,o,p,q=>a.fol o p q || b.fol (o+a.sz) p q
 |star a,o,p,q=>a.fol o p q || (a.lst o p&&a.fst o q)
 |plus a,o,p,q=>a.fol o p q || (a.lst o p&&a.fst o q)
 |opt a,o,p,q=>a.fol o p q
def has:Rx->Nat->Nat->Nat->Bool
 |eps,_,_,_=>false
 |lit f,o,p,b=>p==o&&f b
 |cat a b,o,p,c=>a.has o p c || b.has (o+a.sz) p c
 |alt a b,o,p,c=>a.has o p c || b.has (o+a.sz) p c
 |star a,o,p,c=>a.has o p c
 |plus a,o,p,c=>a.has o p c
 |opt a,o,p,c=>a.has o p c
theorem fst_rng:∀(e:Rx) (o p:Nat),e.fst o p=true->o<=p/\p<o+e.sz
 |eps,o,p,h=>by simp[fst]at h
 |lit _,o,p,h=>by simp[fst]at h;subst h;simp[sz]
 |cat a b,o,p,h=>by
  simp only[fst,Bool.or_eq_true,Bool.and_eq_true]at h;rcases h with h|⟨_,h⟩
  ·have:=fst_rng a o p h;simp only[sz];omega
  ·have:=fst_rng b _ p h;simp only[sz];omega
 |alt a b,o,p,h=>by
  simp only[fst,Bool.or_eq_true]at h;rcases h with h|h
  ·have:=fst_rng a o p h;simp only[sz];omega
  ·have:=fst_rng b _ p h;simp only[sz];omega
 |star a,o,p,h=>fst_rng a o p h
 |plus a,o,p,h=>fst_rng a o p h
 |opt a,o,p,h=>fst_rng a o p h
theorem lst_rng:∀(e:Rx) (o p:Nat),e.lst o p=true->o<=p/\p<o+e.sz
 |eps,o,p,h=>by simp[lst]at h
 |lit _,o,p,h=>by simp[lst]at h;subst h;simp[sz]
 |cat a b,o,p,h=>by
  simp only[lst,Bool.or_eq_true,Bool.and_eq_true]at h;rcases h with h|⟨_,h⟩
  ·have:=lst_rng b _ p h;simp only[sz];omega
  ·have:=lst_rng a _ p h;simp only[sz];omega
 |alt a b,o,p,h=>by
  simp only[lst,Bool.or_eq_true]at h;rcases h with h|h
  ·have:=lst_rng a o p h;simp only[sz];omega
  ·have:=lst_rng b _ p h;simp only[sz];omega
 |star a,o,p,h=>lst_rng a o p h
 |plus a,o,p,h=>lst_rng a o p h
 |opt a,o,p,h=>lst_rng a o p h
theorem fol_rng:∀(e:Rx) (o p q:Nat),e.fol o p q=true->o<=p/\p<o+e.sz/\o<=q/\q<o+e.sz
 |eps,o,p,q,h=>by simp[fol]at h
 |lit _,o,p,q,h=>by simp[fol]at h
 |cat a b,o,p,q,h=>by
  simp only[fol,Bool.or_eq_true,Bool.and_eq_true]at h;rcases h with (h|h)|⟨h,h'⟩
  ·have:=fol_rng a o p q h;simp only[sz];omega
  ·have:=fol_rng b _ p q h;simp only[sz];omega
  ·have:=lst_rng a _ p h;have:=fst_rng b _ q h';simp only[sz];omega
 |alt a b,o,p,q,h=>by
  simp only[fol,Bool.or_eq_true]at h;rcases h with h|h
  ·have:=fol_rng a o p q h;simp only[sz];omega
  ·have:=fol_rng b _ p q h;simp only[sz];omega
 |star a,o,p,q,h=>by
  simp only[fol,Bool.or_eq_true,Bool.and_eq_true]at h;rcases h with h|⟨h,h'⟩
  ·exact fol_rng a o p q h
  ·have:=lst_rng a _ p h;have:=fst_rng a _ q h';simp only[sz];omega
 |plus a,o,p,q,h=>by
  simp only[fol,Bool.or_eq_true,Bool.and_eq_true]at h;rcases h with h|⟨h,h'⟩
  ·exact fol_rng a o p q h
  ·have:=lst_rng a _ p h;have:=fst_rng a _ q h';simp only[sz];omega
 |opt a,o,p,q,h=>fol_rng a o p q h
theorem has_rng:∀(e:Rx) (o p b:Nat),e.has o p b=true->o<=p/\p<o+e.sz
 |eps,o,p,_,h=>by simp[has]at h
 |lit _,o,p,_,h=>by simp only[has,Bool.and_eq_true,beq_iff_eq]at h;simp[sz];omega
 |cat a b,o,p,c,h=>by
  simp only[has,Bool.or_eq_true]at h;rcases h with h|h
  ·have:=has_rng a o p c h;simp only[sz];omega
  ·have:=has_rng b _ p c h;simp only[sz];omega
 |alt a b,o,p,c,h=>by
  simp only[has,Bool.or_eq_true]at h;rcases h with h|h
  ·have:=has_rng a o p c h;simp only[sz];omega
  ·have:=has_rng b _ p c h;simp only[sz];omega
 |star a,o,p,c,h=>has_rng a o p c h
 |plus a,o,p,c,h=>has_rng a o p c h
 |opt a,o,p,c,h=>has_rng a o p c h
variable {e:Rx}
theorem fst_lt {o p:Nat} (h:p<o\/o+e.sz<=p):e.fst o p=false:=by
 cases hf:e.fst o p
 ·rfl
 ·have:=fst_rng e o p hf;omega
theorem lst_lt {o p:Nat} (h:p<o\/o+e.sz<=p):e.lst o p=false:=by
 cases hf:e.lst o p
 ·rfl
 ·have:=lst_rng e o p hf;omega
theorem fol_lt {o p q:Nat} (h:p<o\/o+e.sz<=p\/q<o\/o+e.sz<=q):e.fol o p q=false:=by
 cases hf:e.fol o p q
 ·rfl
 ·have:=fol_rng e o p q hf;omega
variable {b:Nat}
theorem has_lt {o p:Nat} (h:p<o\/o+e.sz<=p):e.has o p b=false:=by
 cases hf:e.has o p b
 ·rfl
 ·have:=has_rng e o p b hf;omega
def nz (e:Rx):Rx:=if e.sz=0 then eps else e
theorem nz_sz (e:Rx):e.nz.sz=e.sz:=by
 unfold nz;split
 ·rename_i h;rw[h];rfl
 ·rfl
def rowOf (l:List Rx):Rx:=l.foldl cat eps
def copies (e:Rx) (m n:Nat):List Rx:=(List.range n).map fun i=>if i<m then e else opt e
def suf (kd:Int) (le mo:Nat) (e:Rx):Rx:=
 if kd=5 then star e else if kd=6 then plus e else if kd=7 then opt e else rowOf (copies e le mo)
theorem foldl_sz (l:List Rx):∀a:Rx,(l.foldl cat a).sz=a.sz+(l.map sz).sum:=by
 induction l with
 |nil=>intro a;simp
 |cons x l ih=>intro a;simp only[List.foldl_cons,ih,sz,List.map_cons,List.sum_cons];omega
theorem rowOf_sz (l:List Rx):(rowOf l).sz=(l.map sz).sum:=by unfold rowOf;rw[foldl_sz];simp[sz]
theorem rowOf_snoc (l:List Rx) (x:Rx):rowOf (l++[x])=cat (rowOf l) x:=by simp[rowOf]
theorem copies_sz (e:Rx) (m n:Nat):(rowOf (copies e m n)).sz=n*e.sz:=by
 induction n with
 |zero=>simp[copies,rowOf,sz]
 |succ n ih=>
  have:copies e m (n+1)=copies e m n++[if n<m then e else opt e]:=by simp[copies,List.range_succ]
  rw[this,rowOf_snoc,sz,ih,Nat.succ_mul];split<;>rfl
theorem copies_succ (e:Rx) (m n:Nat):copies e m (n+1)=copies e m n++[if n<m then e else opt e]:=by simp[copies,List.range_succ]
end Rx
open Go.RowKit
inductive St (L:List Nat->Prop):List Nat->Prop
 |nil:St L []
 |cons {u v:List Nat} (h:L u) (k:St L v):St L (u++v)
def Cc (L M:List Nat->Prop) (w:List Nat):Prop:=∃u v,w=u++v/\L u/\M v
theorem St.split {L:List Nat->Prop}{w:List Nat} (h:St L w) (hw:w≠[]):∃c x y,w=c::(x++y)/\L (c::x)/\St L y:=by
 induction h with
 |nil=>exact absurd rfl hw
 |@cons u v h k ih=>
  cases u with
  |nil=>exact ih (by simpa using hw)
  |cons c x=>exact⟨c,x,v,by simp,h,k⟩
namespace Rx
def Lg:Rx->List Nat->Prop
 |eps=>fun w=>w=[]
 |lit f=>fun w=>∃b,w=[b]/\f b=true
 |cat a b=>Cc a.Lg b.Lg
 |alt a b=>fun w=>a.Lg w\/b.Lg w
 |star a=>St a.Lg
 |plus a=>Cc a.Lg (St a.Lg)
 |opt a=>fun w=>w=[]\/a.Lg w
def Acc (e:Rx) (o:Nat):Nat->List Nat->Prop
 |p,[]=>e.lst o p=true
 |p,b::w=>∃q,e.fol o p q=true/\e.has o q b=true/\Acc e o q w
def Mt (e:Rx) (o:Nat):List Nat->Prop
 |[]=>e.nul=true
 |b::w=>∃q,e.fst o q=true/\e.has o q b=true/\Acc e o q w
theorem acc_alt_l (a b:Rx) (o:Nat):∀(w:List Nat) (p:Nat),o<=p->p<o+a.sz->(Acc (alt a b) o p w<->Acc a o p w)
 |[],p,h1,h2=>by
  have:b.lst (o+a.sz) p=false:=lst_lt (by omega);simp[Acc,lst,this]
 |c::w,p,h1,h2=>by
  simp only[Acc];constructor
  ·rintro ⟨q,hq,hh,ha⟩;have e1:b.fol (o+a.sz) p q=false:=fol_lt (by omega);simp only[fol,e1,Bool.or_false]at hq;have rg:=fol_rng a o p q hq;have e2:b.has (o+a.sz) q c=false:=has_lt (by omega);simp only[has,e2,Bool.or_false]at hh;exact⟨q,hq,hh,(acc_alt_l a b o w q rg.2.2.1 rg.2.2.2).1 ha⟩
  ·rintro ⟨q,hq,hh,ha⟩;have rg:=fol_rng a o p q hq;exact⟨q,by simp[fol,hq],by simp[has,hh],(acc_alt_l a b o w q rg.2.2.1 rg.2.2.2).2 ha⟩
theorem acc_alt_r (a b:Rx) (o:Nat):∀(w:List Nat) (p:Nat),o+a.sz<=p->(Acc (alt a b) o p w<->Acc b (o+a.sz) p w)
 |[],p,h1=>by
  have:a.lst o p=false:=lst_lt (by omega);simp[Acc,lst,this]
 |c::w,p,h1=>by
  simp only[Acc];constructor
  ·rintro ⟨q,hq,hh,ha⟩;have e1:a.fol o p q=false:=fol_lt (by omega);simp only[fol,e1,Bool.false_or]at hq;have rg:=fol_rng b (o+a.sz) p q hq;have e2:a.has o q c=false:=has_lt (by omega);simp only[has,e2,Bool.false_or]at hh;exact⟨q,hq,hh,(acc_alt_r a b o w q rg.2.2.1).1 ha⟩
  ·rintro ⟨q,hq,hh,ha⟩;have rg:=fol_rng b (o+a.sz) p q hq;exact⟨q,by simp[fol,hq],by simp[has,hh],(acc_alt_r a b o w q rg.2.2.1).2 ha⟩
theorem acc_cat_r (a b:Rx) (o:Nat):∀(w:List Nat) (p:Nat),o+a.sz<=p->(Acc (cat a b) o p w<->Acc b (o+a.sz) p w)
 |[],p,h1=>by
  have:a.lst o p=false:=lst_lt (by omega);simp[Acc,lst,this]
 |c::w,p,h1=>by
  simp only[Acc];constructor
  ·rintro ⟨q,hq,hh,ha⟩;have e1:a.fol o p q=false:=fol_lt (by omega);have e3:a.lst o p=false:=lst_lt (by omega);simp only[fol,e1,e3,Bool.false_or,Bool.false_and,Bool.or_false]at hq;have rg:=fol_rng b (o+a.sz) p q hq;have e2:a.has o q c=false:=has_lt (by omega);simp only[has,e2,Bool.false_or]at hh;exact⟨q,hq,hh,(acc_cat_r a b o w q rg.2.2.1).1 ha⟩
  ·rintro ⟨q,hq,hh,ha⟩;have rg:=fol_rng b (o+a.sz) p q hq;exact⟨q,by simp[fol,hq],by simp[has,hh],(acc_cat_r a b o w q rg.2.2.1).2 ha⟩
theorem acc_cat_l (a b:Rx) (o:Nat):∀(w:List Nat) (p:Nat),o<=p->p<o+a.sz->(Acc (cat a b) o p w<->∃u v,w=u++v/\Acc a o p u/\Mt b (o+a.sz) v)
 |[],p,h1,h2=>by
  have:b.lst (o+a.sz) p=false:=lst_lt (by omega);simp only[Acc,lst,this,Bool.false_or,Bool.and_eq_true];constructor
  ·rintro ⟨h,k⟩;exact⟨[],[],rfl,k,h⟩
  ·rintro ⟨u,v,e,hu,hv⟩;obtain⟨rfl,rfl⟩:=List.append_eq_nil_iff.1 e.symm;exact⟨hv,hu⟩
 |c::w,p,h1,h2=>by
  constructor
  ·rintro ⟨q,hq,hh,ha⟩;have e1:b.fol (o+a.sz) p q=false:=fol_lt (by omega);simp only[fol,e1,Bool.or_false,Bool.or_eq_true,Bool.and_eq_true]at hq;rcases hq with hq|⟨hl,hf⟩
   ·have rg:=fol_rng a o p q hq;have e2:b.has (o+a.sz) q c=false:=has_lt (by omega);simp only[has,e2,Bool.or_false]at hh;obtain⟨u,v,e,hu,hv⟩:=(acc_cat_l a b o w q rg.2.2.1 rg.2.2.2).1 ha;exact⟨c::u,v,by simp[e],⟨q,hq,hh,hu⟩,hv⟩
   ·have rg:=fst_rng b (o+a.sz) q hf;have e2:a.has o q c=false:=has_lt (by omega);simp only[has,e2,Bool.false_or]at hh;exact⟨[],c::w,rfl,hl,⟨q,hf,hh,(acc_cat_r a b o w q rg.1).1 ha⟩⟩
  ·rintro ⟨u,v,e,hu,hv⟩;cases u with
   |nil=>
    rw[List.nil_append]at e;subst e;obtain⟨q,hf,hh,ha⟩:=hv;have rg:=fst_rng b (o+a.sz) q hf;have hl:a.lst o p=true:=hu;exact⟨q,by simp[fol,hl,hf],by simp[has,hh],(acc_cat_r a b o w q rg.1).2 ha⟩
   |cons c' u=>
    rw[List.cons_append]at e;cases e;obtain⟨q,hq,hh,ha⟩:=hu;have rg:=fol_rng a o p q hq;exact⟨q,by simp[fol,hq],by simp[has,hh],(acc_cat_l a b o _ q rg.2.2.1 rg.2.2.2).2 ⟨u,v,rfl,ha,hv⟩⟩
theorem acc_plus (a:Rx) (o:Nat):∀(w:List Nat) (p:Nat),Acc (plus a) o p w<->Acc (star a) o p w
 |[],p=>Iff.rfl
 |c::w,p=>by
  simp only[Acc];constructor
  ·rintro ⟨q,hq,hh,ha⟩;exact⟨q,hq,hh,(acc_plus a o w q).1 ha⟩
  ·rintro ⟨q,hq,hh,ha⟩;exact⟨q,hq,hh,(acc_plus a o w q).2 ha⟩
theorem acc_opt (a:Rx) (o:Nat):∀(w:List Nat) (p:Nat),Acc (opt a) o p w<->Acc a o p w
 |[],p=>Iff.rfl
 |c::w,p=>by
  simp only[Acc];constructor
  ·rintro ⟨q,hq,hh,ha⟩;exact⟨q,hq,hh,(acc_opt a o w q).1 ha⟩
  ·rintro ⟨q,hq,hh,ha⟩;exact⟨q,hq,hh,(acc_opt a o w q).2 ha⟩
theorem acc_star_of (a:Rx) (o:Nat) (ih:∀w,Mt a o w<->a.Lg w):∀(w:List Nat) (p:Nat),Acc (star a) o p w->∃u v,w=u++v/\Acc a o p u/\St a.Lg v
 |[],p,h=>⟨[],[],rfl,h,.nil⟩
 |c::w,p,⟨q,hq,hh,ha⟩=>by
  obtain⟨u,v,e,hu,hv⟩:=acc_star_of a o ih w q ha;simp only[fol,Bool.or_eq_true,Bool.and_eq_true]at hq;rcases hq with hq|⟨hl,hf⟩
  ·exact⟨c::u,v,by simp[e],⟨q,hq,hh,hu⟩,hv⟩
  ·refine⟨[],c::w,rfl,hl,?_⟩;rw[e,<-List.cons_append];exact .cons ((ih _).1 ⟨q,hf,hh,hu⟩) hv
theorem acc_star_to (a:Rx) (o:Nat) (ih:∀w,Mt a o w<->a.Lg w):∀(n:Nat) (u v:List Nat) (p:Nat),u.length+v.length<=n->Acc a o p u->St a.Lg v->Acc (star a) o p (u++v)
 |0,u,v,p,hn,hu,hv=>by
  have e1:u=[]:=List.eq_nil_of_length_eq_zero (by omega);have e2:v=[]:=List.eq_nil_of_length_eq_zero (by omega);subst e1;subst e2;exact hu
 |n+1,c::u,v,p,hn,⟨q,hq,hh,ha⟩,hv=>
  ⟨q,by simp[fol,hq],hh,acc_star_to a o ih n u v q (by simp at hn;omega) ha hv⟩
 |n+1,[],v,p,hn,hu,hv=>by
  by_cases e:v=[]
  ·subst e;exact hu
  ·obtain⟨c,x,y,e1,hx,hy⟩:=hv.split e;rw[e1]at hn ⊢;obtain⟨q,hf,hh,ha⟩:=(ih _).2 hx;have hl:a.lst o p=true:=hu;exact⟨q,by simp[fol,hl,hf],hh,acc_star_to a o ih n x y q (by simp at hn;omega) ha hy⟩
theorem mt_lg:∀(e:Rx) (o:Nat) (w:List Nat),Mt e o w<->e.Lg w
 |eps,o,[]=>by simp[Mt,nul,Lg]
 |eps,o,b::w=>by simp[Mt,fst,Lg]
 |lit f,o,[]=>by simp[Mt,nul,Lg]
 |lit f,o,b::w=>by
  simp only[Mt,fst,has,Lg];constructor
  ·rintro ⟨q,hq,hh,ha⟩;simp at hq;subst hq;simp at hh;cases w with
   |nil=>exact⟨b,rfl,hh⟩
   |cons c w=>obtain⟨_,h,_⟩:=ha;simp[fol]at h
  ·rintro ⟨c,e,hc⟩;cases e;exact⟨o,by simp,by simp[hc],by simp[Acc,lst]⟩
 |cat a b,o,[]=>by
  simp only[Mt,nul,Lg,Cc,Bool.and_eq_true];constructor
  ·rintro ⟨h,k⟩;exact⟨[],[],rfl,(mt_lg a o []).1 h,(mt_lg b o []).1 k⟩
  ·rintro ⟨u,v,e,hu,hv⟩;obtain⟨rfl,rfl⟩:=List.append_eq_nil_iff.1 e.symm;exact⟨(mt_lg a o []).2 hu,(mt_lg b o []).2 hv⟩
 |cat a b,o,c::w=>by
  constructor
  ·rintro ⟨q,hq,hh,ha⟩;simp only[fst,Bool.or_eq_true,Bool.and_eq_true]at hq;rcases hq with hq|⟨hn,hq⟩
   ·have rg:=fst_rng a o q hq;have e2:b.has (o+a.sz) q c=false:=has_lt (by omega);simp only[has,e2,Bool.or_false]at hh;obtain⟨u,v,e,hu,hv⟩:=(acc_cat_l a b o w q rg.1 rg.2).1 ha;exact⟨c::u,v,by simp[e],(mt_lg a o _).1 ⟨q,hq,hh,hu⟩,(mt_lg b _ v).1 hv⟩
   ·have rg:=fst_rng b (o+a.sz) q hq;have e2:a.has o q c=false:=has_lt (by omega);simp only[has,e2,Bool.false_or]at hh;exact⟨[],c::w,rfl,(mt_lg a o []).1 hn,(mt_lg b (o+a.sz) _).1 ⟨q,hq,hh,(acc_cat_r a b o w q rg.1).1 ha⟩⟩
  ·rintro ⟨u,v,e,hu,hv⟩;cases u with
   |nil=>
    rw[List.nil_append]at e;subst e;obtain⟨q,hf,hh,ha⟩:=(mt_lg b (o+a.sz) _).2 hv;have rg:=fst_rng b (o+a.sz) q hf;have hn:a.nul=true:=(mt_lg a o []).2 hu;exact⟨q,by simp[fst,hn,hf],by simp[has,hh],(acc_cat_r a b o w q rg.1).2 ha⟩
   |cons c' u=>
    rw[List.cons_append]at e;cases e;obtain⟨q,hf,hh,ha⟩:=(mt_lg a o _).2 hu;have rg:=fst_rng a o q hf;exact⟨q,by simp[fst,hf],by simp[has,hh],(acc_cat_l a b o _ q rg.1 rg.2).2 ⟨u,v,rfl,ha,(mt_lg b _ v).2 hv⟩⟩
 |alt a b,o,[]=>by
  have h1:=mt_lg a o [];have h2:=mt_lg b o [];simp only[Mt]at h1 h2;simp only[Mt,nul,Lg,Bool.or_eq_true,h1,h2]
 |alt a b,o,c::w=>by
  constructor
  ·rintro ⟨q,hq,hh,ha⟩;simp only[fst,Bool.or_eq_true]at hq;rcases hq with hq|hq
   ·have rg:=fst_rng a o q hq;have e2:b.has (o+a.sz) q c=false:=has_lt (by omega);simp only[has,e2,Bool.or_false]at hh;exact Or.inl ((mt_lg a o _).1 ⟨q,hq,hh,(acc_alt_l a b o w q rg.1 rg.2).1 ha⟩)
   ·have rg:=fst_rng b (o+a.sz) q hq;have e2:a.has o q c=false:=has_lt (by omega);simp only[has,e2,Bool.false_or]at hh;exact Or.inr ((mt_lg b (o+a.sz) _).1 ⟨q,hq,hh,(acc_alt_r a b o w q rg.1).1 ha⟩)
  ·rintro (h|h)
   ·obtain⟨q,hf,hh,ha⟩:=(mt_lg a o _).2 h;have rg:=fst_rng a o q hf;exact⟨q,by simp[fst,hf],by simp[has,hh],(acc_alt_l a b o w q rg.1 rg.2).2 ha⟩
   ·obtain⟨q,hf,hh,ha⟩:=(mt_lg b (o+a.sz) _).2 h;have rg:=fst_rng b (o+a.sz) q hf;exact⟨q,by simp[fst,hf],by simp[has,hh],(acc_alt_r a b o w q rg.1).2 ha⟩
 |star a,o,[]=>by
  simp only[Mt,nul,Lg];exact⟨fun _=>.nil,fun _=>trivial⟩
 |star a,o,c::w=>by
  have ih:=fun w=>mt_lg a o w
  constructor
  ·rintro ⟨q,hq,hh,ha⟩;obtain⟨u,v,e,hu,hv⟩:=acc_star_of a o ih w q ha;have:St a.Lg ((c::u)++v):=.cons ((ih _).1 ⟨q,hq,hh,hu⟩) hv;rw[e];exact this
  ·intro h;obtain⟨c',x,y,e1,hx,hy⟩:=St.split h (by simp);cases e1;obtain⟨q,hf,hh,ha⟩:=(ih _).2 hx;exact⟨q,hf,hh,acc_star_to a o ih _ x y q (Nat.le_refl _) ha hy⟩
 |plus a,o,[]=>by
  have h1:=mt_lg a o [];simp only[Mt]at h1;simp only[Mt,nul,Lg,Cc,h1];constructor
  ·intro h;exact⟨[],[],rfl,h,.nil⟩
  ·rintro ⟨u,v,e,hu,hv⟩;obtain⟨rfl,rfl⟩:=List.append_eq_nil_iff.1 e.symm;exact hu
 |plus a,o,c::w=>by
  have ih:=fun w=>mt_lg a o w
  constructor
  ·rintro ⟨q,hq,hh,ha⟩;obtain⟨u,v,e,hu,hv⟩:=acc_star_of a o ih w q ((acc_plus a o w q).1 ha);exact⟨c::u,v,by simp[e],(ih _).1 ⟨q,hq,hh,hu⟩,hv⟩
  ·rintro ⟨u,v,e,hu,hv⟩;have key:∀x y,c::w=x++y->x≠[]->a.Lg x->St a.Lg y->Mt (plus a) o (c::w):=fun x y e hx h k=>by
    cases x with
    |nil=>exact absurd rfl hx
    |cons c' x=>
     rw[List.cons_append]at e;cases e;obtain⟨q,hf,hh,ha⟩:=(ih _).2 h;exact⟨q,hf,hh,(acc_plus a o _ q).2 (acc_star_to a o ih _ x y q (Nat.le_refl _) ha k)⟩
   by_cases e0:u=[]
   ·subst e0;rw[List.nil_append]at e;obtain⟨c',x,y,e1,hx,hy⟩:=hv.split (by rw[<-e];simp);exact key (c'::x) y (by rw[e,e1];simp) (by simp) hx hy
   ·exact key u v e e0 hu hv
 |opt a,o,[]=>by simp[Mt,nul,Lg]
 |opt a,o,c::w=>by
  have ih:=mt_lg a o (c::w);simp only[Mt]at ih;simp only[Mt,Lg,fst,has,acc_opt,ih];simp
end Rx
end
section
theorem Np (s:ByteArray) (k:Nat) (h:k<s.size):s[k]=s.data.toList.getD k 0:=by
 have h':k<s.data.toList.length:=by simpa using h
 rw[List.getD_eq_getElem?_getD,List.getElem?_eq_getElem h'];rfl
theorem YS {k:IntKind}{a b:Int} (h:a=b):Ending.returned (.int k a)=.returned (.int k b):=by rw[h]
theorem Yx {a b:Bool} (h:a=b):Ending.returned (.bool a)=.returned (.bool b):=by rw[h]
namespace Rf
def digit (c:Int):Bool:=decide (48<=c)&&decide (c<=57)
def hex (c:Int):Bool:=digit c || (decide (97<=c)&&decide (c<=102))
def has:List UInt8->Int->Bool
 |[],_=>false
 |x::r,c=>((x.toNat:Int)==c) || has r c
def number (c:Int):Int:=if digit c then c-48 else c-97+10
theorem number_lt (c:Int) (h:hex c=true):0<=number c/\number c<16:=by
 unfold number;cases hd:digit c
 ·have:97<=c/\c<=102:=by simpa[hex,hd]using h
  simp;omega
 ·have:48<=c/\c<=57:=by simpa[digit]using hd
  simp;omega
structure RS where
 ok:Bool
 m:Int
 bk:Int
 o:Int
def marks:List UInt8:=[92,46,91,93,40,41,123,125,124,42,43,63,94,45]
def notInner:List UInt8:=[91,93,94,45]
def to (m bk o:Int) (ok:Bool) (m':Int):RS:=⟨ok,if ok then m' else m,bk,o⟩
def inner (m bk o c m':Int):RS:=if c=92 then ⟨true,2,m',o⟩ else to m bk o (!has notInner c) m'
def outside (m bk o c:Int):RS:=
 if c=92 then ⟨true,2,1,o⟩
 else if c=91 then ⟨true,9,bk,o⟩
 else if c=40 then ⟨true,0,bk,o+1⟩
 else if c=41 then to m bk (o-1) (decide (1<=o)) 1
 else if c=124 then ⟨true,0,bk,o⟩
 else if c=42\/c=43\/c=63 then ⟨m==1,m,bk,o⟩
 else if c=123 then to m bk o (m==1) 5
 else if c=93\/c=125 then ⟨false,m,bk,o⟩
 else ⟨true,1,bk,o⟩
def rest (m bk o c:Int):RS:=
 if m=9 then (if c=94 then ⟨true,10,bk,o⟩ else inner m bk o c 11)
 else if m=10 then inner m bk o c 11
 else if m=11 then (if c=45 then ⟨true,12,bk,o⟩ else if c=93 then ⟨true,1,bk,o⟩ else inner m bk o c 11)
 else if m=12 then inner m bk o c 13
 else if m=13 then (if c=93 then ⟨true,1,bk,o⟩ else inner m bk o c 11)
 else outside m bk o c
def read (m bk o c:Int):RS:=
 if m=2 then (if c=120 then ⟨true,3,bk,o⟩ else to m bk o (c==110 || c==116 || has marks c) bk)
 else if m=3 then to m bk o (hex c) 4
 else if m=4 then to m bk o (hex c) bk
 else if m=5 then to m bk o (digit c) 6
 else if m=6 then (if c=44 then ⟨true,7,bk,o⟩ else to m bk o (c==125) 1)
 else if m=7 then to m bk o (digit c) 8
 else if m=8 then to m bk o (c==125) 1
 else rest m bk o c
def formFrom (m bk o:Int) (i:Nat):List UInt8->Int
 |[]=>if 0<o\/1<m then i else -1
 |c::r=>let x:=read m bk o c.toNat;if x.ok then formFrom x.m x.bk x.o (i+1) r else i
def form (l:List UInt8):Int:=formFrom 0 0 0 0 l
def deepFrom (m bk o:Int) (i:Nat):List UInt8->Int
 |[]=>-1
 |c::r=>let x:=read m bk o c.toNat;if 6<x.o then i else deepFrom x.m x.bk x.o (i+1) r
def deep (l:List UInt8):Int:=deepFrom 0 0 0 0 l
end Rf
open Go.RowKit
theorem Oy (c:UInt8):(c.toNat:Int)<256:=by have:=c.toNat_lt;omega
theorem Ke (c:UInt8):wrap64 (c.toNat:Int)=c.toNat:=by
 have:=c.toNat_lt;unfold wrap64;omega
namespace Rf
def one:List UInt8->Option (Int × Nat)
 |[]=>none
 |c::r=>
  if c=92 then
   match r with
   |[]=>none
   |d::r'=>
    if d=110 then some (10,2) else if d=116 then some (9,2)
    else if d=120 then
     match r' with
     |x::y::_=>if hex x.toNat&&hex y.toNat then some (number x.toNat*16+number y.toNat,4) else none
     |_=>none
    else some (d.toNat,2)
  else some (c.toNat,1)
def items:Nat->List UInt8->Nat->Int->(Nat->Bool)->Option (Nat × Int × (Nat->Bool))
 |0,_,_,_,_=>none
 |f+1,l,i,falls,inn=>
  match l with
  |[]=>none
  |c::_=>
   if c=93 then some (i,falls,inn)
   else match one l with
    |none=>none
    |some (a,n)=>
     match l.drop n with
     |[]=>none
     |d::l'=>
      if d=45 then
       match one l' with
       |none=>none
       |some (b,n')=>items f (l'.drop n') (i+n+1+n') (if b<a/\falls<0 then i else falls) (fun k=>inn k || (decide (a<=k)&&decide ((k:Int)<=b)))
      else items f (d::l') (i+n) falls (fun k=>inn k || (decide (a<=k)&&decide ((k:Int)<=a)))
def set (l:List UInt8) (i:Nat):Option (Nat × Int × (Nat->Bool)):=
 match l with
 |[]=>none
 |c::r=>
  if c=94 then (items (r.length+1) r (i+2) (-1) (fun _=>false)).map fun x=>(x.1+1,x.2.1,fun k=>x.2.2 k != true)
  else (items (r.length+2) (c::r) (i+1) (-1) (fun _=>false)).map fun x=>(x.1+1,x.2.1,fun k=>x.2.2 k != false)
variable {n:Nat}
theorem one_bd {l:List UInt8}{v:Int} (h:one l=some (v,n)):0<=v/\v<256/\1<=n/\n<=4:=by
 unfold one at h;rcases l with _|⟨c,r⟩
 ·cases h
 simp only at h;split at h
 ·rcases r with _|⟨d,r'⟩
  ·cases h
  simp only at h;split at h
  ·simp at h;omega
  split at h
  ·simp at h;omega
  split at h
  ·rcases r' with _|⟨x,_|⟨y,r''⟩⟩
   ·cases h
   ·cases h
   simp only at h;split at h
   ·rename_i hxy;rw[Bool.and_eq_true]at hxy;have h1:=number_lt _ hxy.1;have h2:=number_lt _ hxy.2;simp only[Option.some.injEq,Prod.mk.injEq]at h;omega
   ·cases h
  ·have:=Oy d;simp only[Option.some.injEq,Prod.mk.injEq]at h;omega
 ·have:=Oy c;simp only[Option.some.injEq,Prod.mk.injEq]at h;omega
def valueFrom (p:List UInt8):Nat->Nat->Option Int
 |0,_=>none
 |f+1,i=>
  match p.drop i with
  |[]=>some (-1)
  |c::r=>
   if c=92 then
    match one (c::r)with
    |none=>none
    |some (_,n)=>valueFrom p f (i+n)
   else if c=91 then
    match set r i with
    |none=>none
    |some (j,fa,_)=>if 0<=fa then some fa else valueFrom p f j
   else if c=123 then
    match r with
    |x::y::r'=>
     if y=44 then
      match r' with
      |z::_=>if z.toNat<x.toNat then some i else valueFrom p f (i+1)
      |[]=>none
     else valueFrom p f (i+1)
    |_=>none
   else valueFrom p f (i+1)
def cntTo (f:Nat->Bool):Nat->Nat
 |0=>0
 |k+1=>cntTo f k+if f k then 1 else 0
def emptyFrom (p:List UInt8):Nat->Nat->Option Int
 |0,_=>none
 |f+1,i=>
  match p.drop i with
  |[]=>some (-1)
  |c::r=>
   if c=92 then
    match one (c::r)with
    |none=>none
    |some (_,n)=>emptyFrom p f (i+n)
   else if c=91 then
    match set r i with
    |none=>none
    |some (j,_,inn)=>if cntTo inn 256=0 then some i else emptyFrom p f j
   else emptyFrom p f (i+1)
variable {fa fb:Int}{i j:Nat}{inb inn:N_}
theorem items_ge {l:List UInt8}{f:Nat} (h:items f l i fa inn=some (j,fb,inb)):i<=j:=by
 induction f generalizing l i fa inn with
 |zero=>simp[items]at h
 |succ f ih=>
  unfold items at h;rcases l with _|⟨c,r⟩
  ·cases h
  simp only at h;split at h
  ·simp only[Option.some.injEq,Prod.mk.injEq]at h;omega
  rcases ho:one (c::r)with _|⟨a,n⟩
  ·rw[ho]at h;cases h
  rw[ho]at h;simp only at h;rcases hd:(c::r).drop n with _|⟨d,l'⟩
  ·rw[hd]at h;cases h
  rw[hd]at h;simp only at h;split at h
  ·rcases ho2:one l' with _|⟨b,n'⟩
   ·rw[ho2]at h;cases h
   rw[ho2]at h;have:=ih h;omega
  ·have:=ih h;omega
theorem set_ge {l:List UInt8} (h:set l i=some (j,fb,inb)):i+2<=j:=by
 unfold set at h;rcases l with _|⟨c,r⟩
 ·cases h
 simp only at h;split at h
 ·rcases hx:items (r.length+1) r (i+2) (-1) (fun _=>false)with _|⟨a,b,d⟩
  ·rw[hx]at h;cases h
  rw[hx]at h;have:=items_ge hx;simp only[Option.map_some,Option.some.injEq,Prod.mk.injEq]at h;omega
 ·rcases hx:items (r.length+2) (c::r) (i+1) (-1) (fun _=>false)with _|⟨a,b,d⟩
  ·rw[hx]at h;cases h
  rw[hx]at h;have:=items_ge hx;simp only[Option.map_some,Option.some.injEq,Prod.mk.injEq]at h;omega
end Rf
def X8 (vs:Nat->Int):Nat->Int
 |0=>0
 |n+1=>X8 vs n+vs n
namespace Rf
def groupFrom (p:List UInt8):Nat->Nat->Int->Option Nat
 |0,_,_=>none
 |f+1,i,o=>
  match p.drop i with
  |[]=>some 1
  |c::r=>
   if c=92 then
    match one (c::r)with
    |none=>none
    |some (_,n)=>groupFrom p f (i+n) o
   else if c=91 then
    match set r i with
    |none=>none
    |some (j,_,_)=>groupFrom p f j o
   else if c=40 then groupFrom p f (i+1) (o+1)
   else if c=41 then (if o-1=0 then some (i+1) else groupFrom p f (i+1) (o-1))
   else groupFrom p f (i+1) o
def atom (l:List UInt8):Option Nat:=
 match l with
 |[]=>none
 |c::r=>
  if c=92 then (one (c::r)).map (·.2)
  else if c=91 then (set r 0).map (·.1)
  else if c=40 then groupFrom (c::r) (r.length+2) 0 0
  else some 1
def closeFrom (p:List UInt8):Nat->Nat->Option Nat
 |0,_=>none
 |f+1,i=>
  match p.drop i with
  |[]=>none
  |c::_=>if c=125 then some (i+1) else closeFrom p f (i+1)
def suffixed (p:List UInt8) (i:Nat):Option Nat:=
 match p.drop i with
 |[]=>none
 |c::_=>if c=123 then closeFrom p (p.length+1) i else some (i+1)
def suffixes:List UInt8:=[42,43,63,123]
def pieceFrom (p:List UInt8):Nat->Nat->Option Nat
 |0,_=>none
 |f+1,n=>
  match p.drop n with
  |[]=>some n
  |c::_=>
   if has suffixes c.toNat then
    match suffixed p n with
    |none=>none
    |some n'=>pieceFrom p f n'
   else some n
def piece (l:List UInt8):Option Nat:=
 match atom l with
 |none=>none
 |some n=>pieceFrom l (l.length+1) n
def splitFrom (p:List UInt8):Nat->Nat->Nat->Option Nat
 |0,_,_=>none
 |f+1,n,cut=>
  match p.drop n with
  |[]=>some cut
  |_::_=>
   match suffixed p n with
   |none=>none
   |some n'=>splitFrom p f n' n
def split (l:List UInt8):Option Nat:=
 match atom l with
 |none=>none
 |some n=>splitFrom l (l.length+1) n n
def most:List UInt8->Option Int
 |_::x::y::r=>
  if digit x.toNat then
   if y=44 then
    match r with
    |z::_=>if digit z.toNat then some ((z.toNat:Int)-48) else none
    |[]=>none
   else some ((x.toNat:Int)-48)
  else none
 |_=>none
def cnt:Nat->Bool->List UInt8->Option Int
 |0,_,_=>none
 |f+1,true,l=>
  match l with
  |[]=>some 0
  |c::r=>
   if c=124 then cnt f true r
   else match piece (c::r)with
    |none=>none
    |some k=>
     match cnt f false ((c::r).take k),cnt f true ((c::r).drop k)with
     |some a,some b=>some (a+b)
     |_,_=>none
 |f+1,false,l=>
  match split l with
  |none=>none
  |some cut=>
   match l.drop cut with
   |u::us=>
    match cnt f false (l.take cut)with
    |none=>none
    |some n=>if u=123 then (most (u::us)).map (n*·) else some n
   |[]=>
    match l with
    |[]=>none
    |c::r=>if c=40 then (if r.length=0 then none else cnt f true (r.take (r.length-1))) else some 1
variable {n:Nat}
theorem one_le {l:List UInt8}{v:Int} (h:one l=some (v,n)):n<=l.length:=by
 unfold one at h;rcases l with _|⟨c,r⟩
 ·cases h
 simp only at h;split at h
 ·rcases r with _|⟨d,r'⟩
  ·cases h
  simp only at h;split at h
  ·simp at h;simp;omega
  split at h
  ·simp at h;simp;omega
  split at h
  ·rcases r' with _|⟨x,_|⟨y,r''⟩⟩
   ·cases h
   ·cases h
   simp only at h;split at h
   ·simp only[Option.some.injEq,Prod.mk.injEq]at h;simp;omega
   ·cases h
  ·simp only[Option.some.injEq,Prod.mk.injEq]at h;simp;omega
 ·simp only[Option.some.injEq,Prod.mk.injEq]at h;simp;omega
variable {fa fb:Int}{i j:Nat}{inb inn:N_}
theorem items_lt {l:List UInt8}{f:Nat} (h:items f l i fa inn=some (j,fb,inb)):j<i+l.length:=by
 induction f generalizing l i fa inn with
 |zero=>simp[items]at h
 |succ f ih=>
  unfold items at h;rcases l with _|⟨c,r⟩
  ·cases h
  simp only at h;split at h
  ·simp only[Option.some.injEq,Prod.mk.injEq]at h;simp;omega
  rcases ho:one (c::r)with _|⟨a,n⟩
  ·rw[ho]at h;cases h
  rw[ho]at h;simp only at h;have hn:=one_le ho;rcases hd:(c::r).drop n with _|⟨d,l'⟩
  ·rw[hd]at h;cases h
  have hl:(d::l').length=(c::r).length-n:=by rw[<-hd];simp
  rw[hd]at h;simp only at h;split at h
  ·rcases ho2:one l' with _|⟨b,n'⟩
   ·rw[ho2]at h;cases h
   rw[ho2]at h;have hn':=one_le ho2;have:=ih h;simp only[List.length_drop,List.length_cons]at *;omega
  ·have:=ih h;simp only[List.length_cons]at *;omega
def WrongIs (l:List UInt8) (e a:Int):Prop:=
 (40<l.length/\e=2/\a=0)\/(l.length<=40 /\
  ((0<=form l/\e=3/\a=form l)\/(form l<0 /\
   ((0<=deep l/\e=4/\a=deep l)\/(deep l<0/\∃f v,valueFrom l f 0=some v /\
    ((0<=v/\e=5/\a=v)\/(v<0/\∃g u,emptyFrom l g 0=some u/\((0<=u/\e=6/\a=u)\/(u<0/\e=0/\a=0)))))))))
end Rf
end
section
namespace Bm
def leastTo (E:Nat->Nat->Bool) (a:Nat):Nat->Nat
 |0=>a
 |k+1=>if leastTo E a k<k then leastTo E a k else if E k a then k else a
def least (E:Nat->Nat->Bool) (a:Nat):Nat:=leastTo E a a
theorem leastTo_spec (E:Nat->Nat->Bool) (a:Nat):∀k,k<=a->(leastTo E a k<k/\E (leastTo E a k) a=true/\∀b,b<leastTo E a k->E b a=false)\/(leastTo E a k=a/\∀b,b<k->E b a=false)
 |0,_=>Or.inr ⟨rfl,fun b hb=>by omega⟩
 |k+1,hk=>by
  rw[leastTo];rcases leastTo_spec E a k (by omega)with ⟨h1,h2,h3⟩|⟨h1,h2⟩
  ·rw[if_pos h1];exact Or.inl ⟨by omega,h2,h3⟩
  ·rw[if_neg (by omega)];cases h:E k a
   ·simp only[Bool.false_eq_true,if_false];refine Or.inr ⟨trivial,fun b hb=>?_⟩;by_cases e:b=k
    ·subst e;exact h
    ·exact h2 b (by omega)
   ·simp only[if_true];exact Or.inl ⟨by omega,h,h2⟩
structure Eqv (E:Nat->Nat->Bool) (n:Nat):Prop where
 refl:∀a,a<n->E a a=true
 symm:∀a b,a<n->b<n->E a b=true->E b a=true
 trans:∀a b c,a<n->b<n->c<n->E a b=true->E b c=true->E a c=true
theorem least_le (E:Nat->Nat->Bool) (a:Nat):least E a<=a:=by
 rcases leastTo_spec E a a (Nat.le_refl _)with ⟨h1,_⟩|⟨h1,_⟩<;>(unfold least;omega)
variable {b:Nat}{E:Nat->N_}
theorem least_min {a:Nat} (h:b<least E a):E b a=false:=by
 rcases leastTo_spec E a a (Nat.le_refl _)with ⟨_,_,h3⟩|⟨h1,h2⟩
 ·exact h3 b h
 ·exact h2 b (by unfold least at h;omega)
variable {n:Nat}
theorem least_like {a:Nat} (hE:Eqv E n) (ha:a<n):E (least E a) a=true:=by
 rcases leastTo_spec E a a (Nat.le_refl _)with ⟨_,h2,_⟩|⟨h1,_⟩
 ·exact h2
 ·unfold least;rw[h1];exact hE.refl a ha
theorem least_eq {a r:Nat} (h:E r a=true) (hm:∀b,b<r->E b a=false) (hE:E (least E a) a=true):least E a=r:=by
 have h1:¬least E a<r:=fun h2=>by rw[hm _ h2]at hE;cases hE
 have h2:¬r<least E a:=fun h3=>by rw[least_min h3]at h;cases h
 omega
theorem least_of_like {a:Nat} (hE:Eqv E n) (ha:a<n) (hb:b<n) (h:E a b=true):least E a=least E b:=by
 have la:=least_like hE ha;have lb:=least_like hE hb;have ka:=least_le E a;have kb:=least_le E b;have h1:¬least E a<least E b:=fun h2=>by
  have:=hE.trans (least E a) a b (by omega) ha hb la h;rw[least_min h2]at this;cases this
 have h2:¬least E b<least E a:=fun h3=>by
  have:=hE.trans (least E b) b a (by omega) hb ha lb (hE.symm a b ha hb h);rw[least_min h3]at this;cases this
 omega
theorem like_of_least {a:Nat} (hE:Eqv E n) (ha:a<n) (hb:b<n) (h:least E a=least E b):E a b=true:=by
 have la:=least_like hE ha;have lb:=least_like hE hb;have ka:=least_le E a;rw[<-h]at lb;exact hE.trans a (least E a) b ha (by omega) hb (hE.symm _ _ (by omega) ha la) lb
theorem least_idem {a:Nat} (hE:Eqv E n) (ha:a<n):least E (least E a)=least E a:=by
 have ka:=least_le E a;exact least_of_like hE (by omega) ha (least_like hE ha)
def reps (E:Nat->Nat->Bool) (n:Nat):List Nat:=(List.range n).filter fun a=>least E a==a
def cnt (E:Nat->Nat->Bool) (n:Nat):Nat:=(reps E n).length
def idx (E:Nat->Nat->Bool) (a:Nat):Nat:=cnt E (least E a)
theorem reps_succ (E:Nat->Nat->Bool) (n:Nat):reps E (n+1)=reps E n++if least E n=n then [n] else []:=by
 unfold reps;rw[List.range_succ,List.filter_append];congr 1;by_cases h:least E n=n
 ·rw[if_pos h];simp[h]
 ·rw[if_neg h];simp[h]
theorem cnt_succ (E:Nat->Nat->Bool) (n:Nat):cnt E (n+1)=cnt E n+if least E n=n then 1 else 0:=by
 unfold cnt;rw[reps_succ,List.length_append];split<;>rfl
theorem cnt_mono (E:Nat->Nat->Bool) {a b:Nat} (h:a<=b):cnt E a<=cnt E b:=by
 induction b with
 |zero=>
   have:a=0:=by omega
   subst this;exact Nat.le_refl _
 |succ b ih=>
  by_cases e:a=b+1
  ·subst e;exact Nat.le_refl _
  ·have:=ih (by omega);rw[cnt_succ];omega
theorem cnt_le (E:Nat->Nat->Bool) (n:Nat):cnt E n<=n:=by
 unfold cnt reps;have:=List.length_filter_le (fun a=>least E a==a) (List.range n);simpa using this
theorem reps_get (E:Nat->Nat->Bool):∀(n a:Nat),a<n->least E a=a->(reps E n)[cnt E a]?=some a
 |0,a,h,_=>by omega
 |n+1,a,h,hr=>by
  rw[reps_succ];by_cases e:a=n
  ·subst e;rw[if_pos hr,List.getElem?_append_right (by unfold cnt;omega)];simp[cnt]
  ·have h1:=reps_get E n a (by omega) hr;rw[List.getElem?_append_left (List.getElem?_eq_some_iff.1 h1).1];exact h1
variable {k:Nat}
theorem reps_mem {a:Nat} (h:(reps E n)[k]?=some a):a<n/\least E a=a/\cnt E a=k:=by
 induction n with
 |zero=>simp[reps]at h
 |succ n ih=>
  rw[reps_succ]at h;by_cases hk:k<(reps E n).length
  ·rw[List.getElem?_append_left hk]at h;obtain⟨h1,h2,h3⟩:=ih h;exact⟨by omega,h2,h3⟩
  ·rw[List.getElem?_append_right (by omega)]at h;by_cases hr:least E n=n
   ·rw[if_pos hr]at h;have hk2:k-(reps E n).length=0:=by
     have:=(List.getElem?_eq_some_iff.1 h).1;simp at this;omega
    rw[hk2]at h;simp at h;subst h;exact⟨by omega,hr,by unfold cnt;omega⟩
   ·rw[if_neg hr]at h;simp at h
theorem cnt_lt {a:Nat} (hr:least E a=a) (h:a<b):cnt E a<cnt E b:=by
 have h1:=cnt_succ E a;rw[if_pos hr]at h1;have h2:=cnt_mono E (show a+1<=b by omega);omega
theorem cnt_inj {a:Nat} (ha:least E a=a) (hb:least E b=b) (h:cnt E a=cnt E b):a=b:=by
 rcases Nat.lt_trichotomy a b with h1|h1|h1
 ·have:=cnt_lt ha h1;omega
 ·exact h1
 ·have:=cnt_lt hb h1;omega
theorem idx_lt {a:Nat} (hE:Eqv E n) (ha:a<n):idx E a<cnt E n:=by
 have:=least_le E a;exact cnt_lt (least_idem hE ha) (by omega)
theorem idx_eq {a:Nat} (hE:Eqv E n) (ha:a<n) (hb:b<n):idx E a=idx E b<->E a b=true:=by
 constructor
 ·intro h;exact like_of_least hE ha hb (cnt_inj (least_idem hE ha) (least_idem hE hb) h)
 ·intro h;unfold idx;rw[least_of_like hE ha hb h]
theorem idx_rep {a:Nat} (h:least E a=a):idx E a=cnt E a:=by unfold idx;rw[h]
theorem rep_like {a r:Nat} (hE:Eqv E n) (ha:a<n) (h:(reps E a)[k]?=some r):E r a=true<->k=idx E a:=by
 obtain⟨h1,h2,h3⟩:=reps_mem h;rw[<-idx_eq hE (by omega) ha,idx_rep h2,h3]
theorem rep_new {a:Nat} (hE:Eqv E n) (ha:a<n):(idx E a=cnt E a<->least E a=a)/\idx E a<=cnt E a:=by
 have hl:=least_le E a;refine⟨⟨fun h=>?_,fun h=>idx_rep h⟩,cnt_mono E hl⟩;rcases Nat.lt_or_ge (least E a) a with h1|h1
 ·have:=cnt_lt (least_idem hE ha) h1;unfold idx at h;omega
 ·omega
end Bm
namespace Bm
structure Aut where
 N:Nat
 K:Nat
 to:Nat->Nat->Int
 vd:Nat->Int
def ext (A:Aut):Int->List Nat->Int
 |s,[]=>if s<0 then -1 else A.vd s.toNat
 |s,k::w=>if s<0 then -1 else ext A (A.to s.toNat k) w
theorem ext_none (A:Aut) (w:List Nat) {s:Int} (h:s<0):ext A s w=-1:=by
 cases w<;>simp[ext,h]
theorem ext_nil (A:Aut) (a:Nat):ext A (a:Int) []=A.vd a:=by
 simp only[ext];rw[if_neg (by omega),Int.toNat_natCast]
theorem ext_cons (A:Aut) (a k:Nat) (w:List Nat):ext A (a:Int) (k::w)=ext A (A.to a k) w:=by
 simp only[ext];rw[if_neg (by omega),Int.toNat_natCast]
def Kd (A:Aut) (w:List Nat):Prop:=∀k∈w,k<A.K
theorem Kd.nil (A:Aut):Kd A []:=fun k hk=>by cases hk
variable {A:Aut}{k:Nat}
theorem Kd.cons {w:List Nat} (hk:k<A.K) (hw:Kd A w):Kd A (k::w):=fun j hj=>by
 rcases List.mem_cons.1 hj with rfl|h
 ·exact hk
 ·exact hw j h
theorem Kd.tail {w:List Nat} (h:Kd A (k::w)):k<A.K/\Kd A w:=⟨h k (by simp),fun j hj=>h j (by simp[hj])⟩
def Al (A:Aut) (a b:Int):Prop:=∀w,Kd A w->ext A a w=ext A b w
theorem Al.refl (A:Aut) (a:Int):Al A a a:=fun _ _=>rfl
theorem Al.symm {a b:Int} (h:Al A a b):Al A b a:=fun w hw=>(h w hw).symm
theorem Al.trans {a b c:Int} (h:Al A a b) (k:Al A b c):Al A a c:=fun w hw=>(h w hw).trans (k w hw)
variable {b:Nat}
theorem Al.vd {a:Nat} (h:Al A a b):A.vd a=A.vd b:=by
 have:=h [] (Kd.nil A);rw[ext_nil,ext_nil]at this;exact this
theorem Al.to {a:Nat} (h:Al A a b) (hk:k<A.K):Al A (A.to a k) (A.to b k):=fun w hw=>by
 have:=h (k::w) (hw.cons hk);rw[ext_cons,ext_cons]at this;exact this
structure Aut.Good (A:Aut):Prop where
 rng:∀s k,s<A.N->k<A.K->-1<=A.to s k/\A.to s k<A.N
 live:∀s:Nat,s<A.N->¬Al A s (-1)
def gAt (A:Aut) (of:Nat->Int) (a k:Nat):Int:=if A.to a k=-1 then -1 else of (A.to a k).toNat
def Tg (A:Aut) (of:Nat->Int) (a b:Nat):Bool:=of a==of b&&(List.range A.K).all fun k=>gAt A of a k==gAt A of b k
theorem Tg_iff (A:Aut) (of:Nat->Int) (a b:Nat):Tg A of a b=true<->of a=of b/\∀k,k<A.K->gAt A of a k=gAt A of b k:=by
 simp[Tg]
theorem Tg_eqv (A:Aut) (of:Nat->Int) (n:Nat):Eqv (Tg A of) n:=
 ⟨fun a _=>(Tg_iff A of a a).2 ⟨rfl,fun _ _=>rfl⟩,
  fun a b _ _ h=>by
  obtain⟨h1,h2⟩:=(Tg_iff A of a b).1 h;exact(Tg_iff A of b a).2 ⟨h1.symm,fun k hk=>(h2 k hk).symm⟩,
  fun a b c _ _ _ h h'=>by
  obtain⟨h1,h2⟩:=(Tg_iff A of a b).1 h;obtain⟨k1,k2⟩:=(Tg_iff A of b c).1 h';exact(Tg_iff A of a c).2 ⟨h1.trans k1,fun k hk=>(h2 k hk).trans (k2 k hk)⟩⟩
theorem Tg_al (hA:A.Good) {of:Nat->Int} (h:∀a b:Nat,a<A.N->b<A.N->Al A a b->of a=of b) {a b:Nat} (ha:a<A.N) (hb:b<A.N) (hab:Al A a b):Tg A of a b=true:=by
 refine(Tg_iff A of a b).2 ⟨h a b ha hb hab,fun k hk=>?_⟩;have ht:=hab.to hk;have r1:=hA.rng a k ha hk;have r2:=hA.rng b k hb hk;unfold gAt;by_cases h1:A.to a k=-1
 ·by_cases h2:A.to b k=-1
  ·rw[if_pos h1,if_pos h2]
  ·exfalso;obtain⟨m,hm⟩:=Int.eq_ofNat_of_zero_le (show 0<=A.to b k by omega);rw[h1,hm]at ht;exact hA.live m (by omega) ht.symm
 ·by_cases h2:A.to b k=-1
  ·exfalso;obtain⟨m,hm⟩:=Int.eq_ofNat_of_zero_le (show 0<=A.to a k by omega);rw[h2,hm]at ht;exact hA.live m (by omega) ht
  ·rw[if_neg h1,if_neg h2];obtain⟨m,hm⟩:=Int.eq_ofNat_of_zero_le (show 0<=A.to a k by omega);obtain⟨p,hp⟩:=Int.eq_ofNat_of_zero_le (show 0<=A.to b k by omega);rw[hm,hp]at ht ⊢;rw[Int.toNat_natCast,Int.toNat_natCast];exact h m p (by omega) (by omega) ht
variable {n:Nat}{E:Nat->N_}
theorem finer_eq {F:Nat->Nat->Bool} (hE:Eqv E n) (hF:Eqv F n) (h:∀a b,a<n->b<n->F a b=true->E a b=true) (hc:cnt F n<=cnt E n):
  ∀a b,a<n->b<n->E a b=true->F a b=true:=by
 have hr:∀a,a<n->least E a=a->least F a=a:=fun a ha hl=>by
  have h1:=least_le F a;rcases Nat.lt_or_ge (least F a) a with h2|h2
  ·have h3:=h _ _ (by omega) ha (least_like hF ha);have h4:=least_of_like hE (by omega) ha h3;have h5:=least_le E (least F a);rw[hl]at h4;omega
  ·omega
 have hm:∀k,k<=n->cnt E k<=cnt F k:=by
  intro k
  induction k with
  |zero=>intro _;exact Nat.le_refl _
  |succ k ih=>
   intro hk;have:=ih (by omega);rw[cnt_succ,cnt_succ];by_cases e:least E k=k
   ·rw[if_pos e,if_pos (hr k (by omega) e)];omega
   ·rw[if_neg e];omega
 have hs:∀k,k<=n->cnt F n-cnt F k>=cnt E n-cnt E k/\cnt F k<=cnt F n/\cnt E k<=cnt E n:=by
  intro k hk;refine⟨?_,cnt_mono F hk,cnt_mono E hk⟩;obtain⟨d,rfl⟩:∃d,n=k+d:=⟨n-k,by omega⟩;have:∀j,j<=d->cnt E (k+j)-cnt E k<=cnt F (k+j)-cnt F k:=by
   intro j
   induction j with
   |zero=>intro _;simp
   |succ j ih=>
    intro hj;have h1:=ih (by omega);have h2:=cnt_mono E (show k<=k+j by omega);have h3:=cnt_mono F (show k<=k+j by omega);rw[<-Nat.add_assoc,cnt_succ,cnt_succ];by_cases e:least E (k+j)=k+j
    ·rw[if_pos e,if_pos (hr _ (by omega) e)];omega
    ·rw[if_neg e];omega
  exact this d (Nat.le_refl _)
 have heq:∀k,k<=n->cnt E k=cnt F k:=fun k hk=>by
  have h1:=hm k hk;have h2:=hs k hk;omega
 have hrep:∀a,a<n->least F a=a->least E a=a:=fun a ha hl=>by
  have h1:=heq a (by omega);have h2:=heq (a+1) (by omega);rw[cnt_succ,cnt_succ,if_pos hl]at h2;by_cases e:least E a=a
  ·exact e
  ·rw[if_neg e]at h2;omega
 have hl:∀a,a<n->least E a=least F a:=fun a ha=>by
  have h1:=least_le F a;have h2:=hrep (least F a) (by omega) (least_idem hF ha);have h3:=least_of_like hE (by omega) ha (h _ _ (by omega) ha (least_like hF ha));rw[<-h3,h2]
 intro a b ha hb hab;exact like_of_least hF ha hb (by rw[<-hl a ha,<-hl b hb];exact least_of_like hE ha hb hab)
def idxI (E:Nat->Nat->Bool) (a:Nat):Int:=(idx E a:Int)
structure Part (A:Aut) (E:Nat->Nat->Bool):Prop where
 eqv:Eqv E A.N
 vd:∀a b,a<A.N->b<A.N->E a b=true->A.vd a=A.vd b
 al:∀a b:Nat,a<A.N->b<A.N->Al A a b->E a b=true
theorem Part.first (hA:A.Good):Part A (Tg A fun a=>A.vd a+1):=
 ⟨Tg_eqv _ _ _,fun a b _ _ h=>by have:=((Tg_iff _ _ _ _).1 h).1;omega,fun a b ha hb h=>Tg_al hA (fun a b _ _ h=>by rw[h.vd]) ha hb h⟩
theorem Part.next (hA:A.Good) (h:Part A E):Part A (Tg A (idxI E))/\∀a b,a<A.N->b<A.N->Tg A (idxI E) a b=true->E a b=true:=by
 have hf:∀a b,a<A.N->b<A.N->Tg A (idxI E) a b=true->E a b=true:=fun a b ha hb hT=>by
  have h1:=((Tg_iff _ _ _ _).1 hT).1;exact(idx_eq h.eqv ha hb).1 (by unfold idxI at h1;omega)
 refine⟨⟨Tg_eqv _ _ _,fun a b ha hb hT=>h.vd a b ha hb (hf a b ha hb hT),fun a b ha hb hab=>Tg_al hA (fun a b ha hb hab=>?_) ha hb hab⟩,hf⟩;unfold idxI;rw[(idx_eq h.eqv ha hb).2 (h.al a b ha hb hab)]
theorem Part.stable (hA:A.Good) (h:Part A E) (hc:cnt (Tg A (idxI E)) A.N<=cnt E A.N):∀a b:Nat,a<A.N->b<A.N->(Tg A (idxI E) a b=true<->Al A a b):=by
 obtain⟨h2,hf⟩:=h.next hA;have he:=finer_eq h.eqv h2.eqv hf hc;have hw:∀(w:List Nat) (a b:Nat),Kd A w->a<A.N->b<A.N->E a b=true->ext A a w=ext A b w:=by
  intro w
  induction w with
  |nil=>
   intro a b _ ha hb hab;simp only[ext,Int.toNat_natCast];rw[if_neg (by omega),if_neg (by omega)];exact h.vd a b ha hb hab
  |cons k w ih=>
   intro a b hk ha hb hab;obtain⟨k1,k2⟩:=hk.tail;have hT:=((Tg_iff _ _ _ _).1 (he a b ha hb hab)).2 k k1;have r1:=hA.rng a k ha k1;have r2:=hA.rng b k hb k1;simp only[ext,Int.toNat_natCast];rw[if_neg (by omega),if_neg (by omega)];unfold gAt at hT;by_cases h1:A.to a k=-1
   ·rw[if_pos h1]at hT;by_cases h2:A.to b k=-1
    ·rw[h1,h2]
    ·rw[if_neg h2]at hT;unfold idxI at hT;omega
   ·rw[if_neg h1]at hT;by_cases h2:A.to b k=-1
    ·rw[if_pos h2]at hT;unfold idxI at hT;omega
    ·rw[if_neg h2]at hT;obtain⟨m,hm⟩:=Int.eq_ofNat_of_zero_le (show 0<=A.to a k by omega);obtain⟨p,hp⟩:=Int.eq_ofNat_of_zero_le (show 0<=A.to b k by omega);rw[hm,hp]at hT ⊢;rw[Int.toNat_natCast,Int.toNat_natCast]at hT;exact ih m p k2 (by omega) (by omega) ((idx_eq h.eqv (by omega) (by omega)).1 (by unfold idxI at hT;omega))
 intro a b ha hb;constructor
 ·intro hT w hk;exact hw w a b hk ha hb (hf a b ha hb hT)
 ·exact h2.al a b ha hb
open Classical in
noncomputable def alB (A:Aut) (a b:Nat):Bool:=decide (Al A a b)
theorem alB_iff (A:Aut) (a b:Nat):alB A a b=true<->Al A a b:=by simp[alB]
theorem alB_eqv (A:Aut) (n:Nat):Eqv (alB A) n:=
 ⟨fun a _=>(alB_iff A a a).2 (Al.refl A a),fun a b _ _ h=>(alB_iff A b a).2 ((alB_iff A a b).1 h).symm,fun a b c _ _ _ h k=>(alB_iff A a c).2 (((alB_iff A a b).1 h).trans ((alB_iff A b c).1 k))⟩
theorem least_congr {F:Nat->Nat->Bool} (hE:Eqv E n) (hF:Eqv F n) (h:∀a b,a<n->b<n->(E a b=true<->F a b=true)) {a:Nat} (ha:a<n):least E a=least F a:=by
 have h1:=least_le E a;have h2:=least_le F a;have h3:=least_of_like hF (by omega) ha ((h _ _ (by omega) ha).1 (least_like hE ha));have h4:=least_of_like hE (by omega) ha ((h _ _ (by omega) ha).2 (least_like hF ha));have h5:=least_le F (least E a);have h6:=least_le E (least F a);omega
theorem reps_congr {F:Nat->Nat->Bool} (hE:Eqv E n) (hF:Eqv F n) (h:∀a b,a<n->b<n->(E a b=true<->F a b=true)):∀m,m<=n->reps E m=reps F m
 |0,_=>rfl
 |m+1,hm=>by rw[reps_succ,reps_succ,reps_congr hE hF h m (by omega),least_congr hE hF h (show m<n by omega)]
theorem idx_congr {F:Nat->Nat->Bool} (hE:Eqv E n) (hF:Eqv F n) (h:∀a b,a<n->b<n->(E a b=true<->F a b=true)) {a:Nat} (ha:a<n):idx E a=idx F a:=by
 have:=least_le F a;unfold idx cnt;rw[least_congr hE hF h ha,reps_congr hE hF h _ (by omega)]
end Bm
end
end Go.Proofs.YtoaaklhpmhjhkabGreat
