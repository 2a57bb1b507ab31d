import Derived.WalkKit
import Derived.Test.YtoaaklhpmhjhkaaGreatSk
set_option maxRecDepth 100000
set_option maxHeartbeats 4000000
set_option linter.all false
namespace Go.Proofs.YtoaaklhpmhjhkaaGreat
inductive Rx where
 |eps
 |lit (f:Nat->Bool)
 |cat (a b:Rx)
 |alt (a b:Rx)
 |star (a:Rx)
 |plus (a:Rx)
 |opt (a:Rx)
namespace Rx
def sz:Rx->Nat
 |eps=>0
 |lit _=>1
 |cat a b=>a.sz+b.sz
 |alt a b=>a.sz+b.sz
 |star a=>a.sz
 |plus a=>a.sz
 |opt a=>a.sz
def nul:Rx->Bool
 |eps=>true
 |lit _=>false
 |cat a b=>a.nul&&b.nul
 |alt a b=>a.nul || b.nul
 |star _=>true
 |plus a=>a.nul
 |opt _=>true
def fst:Rx->Nat->Nat->Bool
 |eps,_,_=>false
 |lit _,o,p=>p==o
 |cat a b,o,p=>a.fst o p || (a.nul&&b.fst (o+a.sz) p)
 |alt a b,o,p=>a.fst o p || b.fst (o+a.sz) p
 |star a,o,p=>a.fst o p
 |plus a,o,p=>a.fst o p
 |opt a,o,p=>a.fst o p
def lst:Rx->Nat->Nat->Bool
 |eps,_,_=>false
 |lit _,o,p=>p==o
 |cat a b,o,p=>b.lst (o+a.sz) p || (b.nul&&a.lst o p)
 |alt a b,o,p=>a.lst o p || b.lst (o+a.sz) p
 |star a,o,p=>a.lst o p
 |plus a,o,p=>a.lst o p
 |opt a,o,p=>a.lst o p
def fol:Rx->Nat->Nat->Nat->Bool
 |eps,_,_,_=>false
 |lit _,_,_,_=>false
 |cat a b,o,p,q=>a.fol o p q || b.fol (o+a.sz) p q || (a.lst o p&&b.fst (o+a.sz) q)
 |alt a b,o,p,q=>a.fol o p q || b.fol (o+a.sz) p q
 |star a,o,p,q=>a.fol o p q || (a.lst o p&&a.fst o q)
 |plus a,o,p,q=>a.fol o p q || (a.lst o p&&a.fst o q)
 |opt a,o,p,q=>a.fol o p q
def has:Rx->Nat->Nat->Nat->Bool
 |eps,_,_,_=>false
 |lit f,o,p,b=>p==o&&f b
 |cat a b,o,p,c=>a.has o p c || b.has (o+a.sz) p c
 |alt a b,o,p,c=>a.has o p c || b.has (o+a.sz) p c
 |star a,o,p,c=>a.has o p c
 |plus a,o,p,c=>a.has o p c
 |opt a,o,p,c=>a.has o p c
theorem fst_rng:∀(e:Rx) (o p:Nat),e.fst o p=true->o<=p/\p<o+e.sz
 |eps,o,p,h=>by simp[fst]at h
 |lit _,o,p,h=>by simp[fst]at h;subst h;simp[sz]
 |cat a b,o,p,h=>by
  simp only[fst,Bool.or_eq_true,Bool.and_eq_true]at h;rcases h with h|⟨_,h⟩
  ·have:=fst_rng a o p h;simp only[sz];omega
  ·have:=fst_rng b _ p h;simp only[sz];omega
 |alt a b,o,p,h=>by
  simp only[fst,Bool.or_eq_true]at h;rcases h with h|h
  ·have:=fst_rng a o p h;simp only[sz];omega
  ·have:=fst_rng b _ p h;simp only[sz];omega
 |star a,o,p,h=>fst_rng a o p h
 |plus a,o,p,h=>fst_rng a o p h
 |opt a,o,p,h=>fst_rng a o p h
theorem lst_rng:∀(e:Rx) (o p:Nat),e.lst o p=true->o<=p/\p<o+e.sz
 |eps,o,p,h=>by simp[lst]at h
 |lit _,o,p,h=>by simp[lst]at h;subst h;simp[sz]
 |cat a b,o,p,h=>by
  simp only[lst,Bool.or_eq_true,Bool.and_eq_true]at h;rcases h with h|⟨_,h⟩
  ·have:=lst_rng b _ p h;simp only[sz];omega
  ·have:=lst_rng a _ p h;simp only[sz];omega
 |alt a b,o,p,h=>by
  simp only[lst,Bool.or_eq_true]at h;rcases h with h|h
  ·have:=lst_rng a o p h;simp only[sz];omega
  ·have:=lst_rng b _ p h;simp only[sz];omega
 |star a,o,p,h=>lst_rng a o p h
 |plus a,o,p,h=>lst_rng a o p h
 |opt a,o,p,h=>lst_rng a o p h
theorem fol_rng:∀(e:Rx) (o p q:Nat),e.fol o p q=true->o<=p/\p<o+e.sz/\o<=q/\q<o+e.sz
 |eps,o,p,q,h=>by simp[fol]at h
 |lit _,o,p,q,h=>by simp[fol]at h
 |cat a b,o,p,q,h=>by
  simp only[fol,Bool.or_eq_true,Bool.and_eq_true]at h;rcases h with (h|h)|⟨h,h'⟩
  ·have:=fol_rng a o p q h;simp only[sz];omega
  ·have:=fol_rng b _ p q h;simp only[sz];omega
  ·have:=lst_rng a _ p h;have:=fst_rng b _ q h';simp only[sz];omega
 |alt a b,o,p,q,h=>by
  simp only[fol,Bool.or_eq_true]at h;rcases h with h|h
  ·have:=fol_rng a o p q h;simp only[sz];omega
  ·have:=fol_rng b _ p q h;simp only[sz];omega
 |star a,o,p,q,h=>by
  simp only[fol,Bool.or_eq_true,Bool.and_eq_true]at h;rcases h with h|⟨h,h'⟩
  ·exact fol_rng a o p q h
  ·have:=lst_rng a _ p h;have:=fst_rng a _ q h';simp only[sz];omega
 |plus a,o,p,q,h=>by
  simp only[fol,Bool.or_eq_true,Bool.and_eq_true]at h;rcases h with h|⟨h,h'⟩
  ·exact fol_rng a o p q h
  ·have:=lst_rng a _ p h;have:=fst_rng a _ q h';simp only[sz];omega
 |opt a,o,p,q,h=>fol_rng a o p q h
theorem has_rng:∀(e:Rx) (o p b:Nat),e.has o p b=true->o<=p/\p<o+e.sz
 |eps,o,p,_,h=>by simp[has]at h
 |lit _,o,p,_,h=>by simp only[has,Bool.and_eq_true,beq_iff_eq]at h;simp[sz];omega
 |cat a b,o,p,c,h=>by
  simp only[has,Bool.or_eq_true]at h;rcases h with h|h
  ·have:=has_rng a o p c h;simp only[sz];omega
  ·have:=has_rng b _ p c h;simp only[sz];omega
 |alt a b,o,p,c,h=>by
  simp only[has,Bool.or_eq_true]at h;rcases h with h|h
  ·have:=has_rng a o p c h;simp only[sz];omega
  ·have:=has_rng b _ p c h;simp only[sz];omega
 |star a,o,p,c,h=>has_rng a o p c h
 |plus a,o,p,c,h=>has_rng a o p c h
 |opt a,o,p,c,h=>has_rng a o p c h
variable {e : Rx}
theorem fst_lt {o p:Nat} (h:p<o\/o+e.sz<=p):e.fst o p=false:=by
 cases hf:e.fst o p
 ·rfl
 ·have:=fst_rng e o p hf;omega
theorem lst_lt {o p:Nat} (h:p<o\/o+e.sz<=p):e.lst o p=false:=by
 cases hf:e.lst o p
 ·rfl
 ·have:=lst_rng e o p hf;omega
variable {q : Nat}
theorem fol_lt {o p:Nat} (h:p<o\/o+e.sz<=p\/q<o\/o+e.sz<=q):e.fol o p q=false:=by
 cases hf:e.fol o p q
 ·rfl
 ·have:=fol_rng e o p q hf;omega
variable {b : Nat}
theorem has_lt {o p:Nat} (h:p<o\/o+e.sz<=p):e.has o p b=false:=by
 cases hf:e.has o p b
 ·rfl
 ·have:=has_rng e o p b hf;omega
def nz (e:Rx):Rx:=if e.sz=0 then eps else e
theorem nz_sz (e:Rx):e.nz.sz=e.sz:=by
 unfold nz;split
 ·rename_i h;rw[h];rfl
 ·rfl
def rowOf (l:List Rx):Rx:=l.foldl cat eps
def copies (e:Rx) (m n:Nat):List Rx:=(List.range n).map fun i=>if i<m then e else opt e
def suf (kd:Int) (le mo:Nat) (e:Rx):Rx:=
 if kd=5 then star e else if kd=6 then plus e else if kd=7 then opt e else rowOf (copies e le mo)
theorem foldl_sz (l:List Rx):∀a:Rx,(l.foldl cat a).sz=a.sz+(l.map sz).sum:=by
 induction l with
 |nil=>intro a;simp
 |cons x l ih=>intro a;simp only[List.foldl_cons,ih,sz,List.map_cons,List.sum_cons];omega
theorem rowOf_sz (l:List Rx):(rowOf l).sz=(l.map sz).sum:=by unfold rowOf;rw[foldl_sz];simp[sz]
theorem rowOf_snoc (l:List Rx) (x:Rx):rowOf (l++[x])=cat (rowOf l) x:=by simp[rowOf]
theorem copies_sz (e:Rx) (m n:Nat):(rowOf (copies e m n)).sz=n*e.sz:=by
 induction n with
 |zero=>simp[copies,rowOf,sz]
 |succ n ih=>
  have:copies e m (n+1)=copies e m n++[if n<m then e else opt e]:=by simp[copies,List.range_succ]
  rw[this,rowOf_snoc,sz,ih,Nat.succ_mul];split<;>rfl
theorem copies_succ (e:Rx) (m n:Nat):copies e m (n+1)=copies e m n++[if n<m then e else opt e]:=by simp[copies,List.range_succ]
end Rx
structure Nd where
 kind:Nat
 kids:List Nat
 up:Int
 at_:Nat
 inn:Nat->Bool
def clN (T:Nat->Nd):Nat->Nat
 |0=>0
 |n+1=>clN T n+if (T n).kind=0 then 1 else 0
theorem q1V (T:Nat->Nd) {a b:Nat} (h:a<=b):clN T a<=clN T b:=by
 induction b with
 |zero=>
   have:a=0:=by omega
   subst this;exact Nat.le_refl _
 |succ b ih=>
  by_cases e:a=b+1
  ·subst e;exact Nat.le_refl _
  ·have:=ih (by omega);simp only[clN];omega
variable {kids ks : List Nat}{N N' h i j k kind lo m n n' : Nat}{inn nl : Nat → Bool}{bg : Nat → Nat → Bool}{T : Nat → Nd}
theorem q4S {a:Nat} (hm:(T m).kind=0) (h:m<a):clN T m<clN T a:=by
 have h1:=q1V T (show m+1<=a from h);simp only[clN,hm,if_true]at h1;omega
variable {T' : Nat → Nd}
theorem q3A:∀n,(∀i,i<n->(T' i).kind=(T i).kind)->clN T' n=clN T n
 |0,_=>rfl
 |n+1,h=>by simp only[clN];rw[q3A n (fun i hi=>h i (by omega)),h n (by omega)]
def rowB (b e:Nat->Bool):List Nat->Bool
 |[]=>false
 |k::ks=>b k || (e k&&rowB b e ks)
structure Eqs (T:Nat->Nd) (N:Nat) (nl:Nat->Bool) (bg:Nat->Nat->Bool) (bh:Nat->Option Nat->Bool):Prop where
 nl0:∀n,n<N->(T n).kind=0->nl n=false
 nl1:∀n,n<N->(T n).kind=1\/(T n).kind=4->nl n=(T n).kids.all nl
 nl2:∀n,n<N->(T n).kind=2->nl n=(T n).kids.any nl
 nl3:∀n,n<N->(T n).kind=3->nl n=true
 bg0:∀n m,n<N->(T n).kind=0->bg n m=(n==m)
 bg1:∀n m,n<N->(T n).kind=1->bg n m=rowB (fun k=>bg k m) nl (T n).kids
 bg2:∀n m,n<N->(T n).kind=2\/(T n).kind=3\/(T n).kind=4->bg n m=(T n).kids.any (fun k=>bg k m)
 bhR:∀(n:Nat) (q:Option Nat),n<N->(T n).up<0->bh n q=(q==none)
 bh1:∀(n u:Nat) (q:Option Nat),n<N->(T n).up=(u:Int)->(T u).kind=1->bh n q=(q.any (fun m=>rowB (fun k=>bg k m) nl ((T u).kids.drop ((T n).at_+1))) || (((T u).kids.drop ((T n).at_+1)).all nl&&bh u q))
 bh2:∀(n u:Nat) (q:Option Nat),n<N->(T n).up=(u:Int)->(T u).kind=2->bh n q=bh u q
 bh3:∀(n u:Nat) (q:Option Nat),n<N->(T n).up=(u:Int)->(T u).kind=3\/(T u).kind=4->bh n q=(q.any (fun m=>bg n m) || bh u q)
structure Smn (T:Nat->Nd) (nl:Nat->Bool) (bg:Nat->Nat->Bool) (bh:Nat->Option Nat->Bool) (lo n:Nat) (e:Rx):Prop where
 c:clN T (n+1)=clN T lo+e.sz
 e0:nl n=e.nul
 f:∀m,(T m).kind=0->bg n m=e.fst (clN T lo) (clN T m)
 b:∀m q,lo<=m->m<=n->(T m).kind=0->(∀x,q=some x->(T x).kind=0)->bh m q=(q.any (fun x=>e.fol (clN T lo) (clN T m) (clN T x)) || (e.lst (clN T lo) (clN T m)&&bh n q))
 h:∀m b,lo<=m->m<=n->(T m).kind=0->b<256->(T m).inn b=e.has (clN T lo) (clN T m) b
structure SemEq (a b:Rx):Prop where
 s:a.sz=b.sz
 n:a.nul=b.nul
 f:∀o p,a.fst o p=b.fst o p
 l:∀o p,a.lst o p=b.lst o p
 o:∀o p q,a.fol o p q=b.fol o p q
 h:∀o p c,a.has o p c=b.has o p c
theorem SemEq.refl (a:Rx):SemEq a a:=⟨rfl,rfl,fun _ _=>rfl,fun _ _=>rfl,fun _ _ _=>rfl,fun _ _ _=>rfl⟩
theorem SemEq.symm {a b:Rx} (h:SemEq a b):SemEq b a:=⟨h.s.symm,h.n.symm,fun _ _=>(h.f _ _).symm,fun _ _=>(h.l _ _).symm,fun _ _ _=>(h.o _ _ _).symm,fun _ _ _=>(h.h _ _ _).symm⟩
theorem SemEq.trans {a b c:Rx} (h:SemEq a b) (k:SemEq b c):SemEq a c:=⟨h.s.trans k.s,h.n.trans k.n,fun _ _=>(h.f _ _).trans (k.f _ _),fun _ _=>(h.l _ _).trans (k.l _ _),fun _ _ _=>(h.o _ _ _).trans (k.o _ _ _),fun _ _ _=>(h.h _ _ _).trans (k.h _ _ _)⟩
variable {e e' : Rx}
theorem Smn.eq {bh:Nat->Option Nat->Bool} (h:Smn T nl bg bh lo n e) (k:SemEq e e'):Smn T nl bg bh lo n e':=
 ⟨by rw[<-k.s];exact h.c,by rw[<-k.n];exact h.e0,fun m hm=>by rw[<-k.f];exact h.f m hm,
  fun m q h1 h2 h3 h4=>by
  rw[h.b m q h1 h2 h3 h4,k.l];congr 2
  funext x;exact k.o _ _ _,
  fun m b h1 h2 h3 h4=>by rw[<-k.h];exact h.h m b h1 h2 h3 h4⟩
theorem SemEq.alt_assoc (a b c:Rx):SemEq (.alt (.alt a b) c) (.alt a (.alt b c)):=by
 refine⟨?_,?_,fun o p=>?_,fun o p=>?_,fun o p q=>?_,fun o p q=>?_⟩
 ·simp only[Rx.sz];omega
 ·simp only[Rx.nul];exact Bool.or_assoc ..
 ·simp only[Rx.fst,Rx.sz,<-Nat.add_assoc];exact Bool.or_assoc ..
 ·simp only[Rx.lst,Rx.sz,<-Nat.add_assoc];exact Bool.or_assoc ..
 ·simp only[Rx.fol,Rx.sz,<-Nat.add_assoc];exact Bool.or_assoc ..
 ·simp only[Rx.has,Rx.sz,<-Nat.add_assoc];exact Bool.or_assoc ..
theorem SemEq.opt_alt (a:Rx):SemEq (.alt a .eps) (.opt a):=by
 refine⟨?_,?_,fun o p=>?_,fun o p=>?_,fun o p q=>?_,fun o p q=>?_⟩<;>simp[Rx.sz,Rx.nul,Rx.fst,Rx.lst,Rx.fol,Rx.has]
theorem SemEq.cat_eps (a:Rx):SemEq (.cat .eps a) a:=by
 refine⟨?_,?_,fun o p=>?_,fun o p=>?_,fun o p q=>?_,fun o p q=>?_⟩<;>simp[Rx.sz,Rx.nul,Rx.fst,Rx.lst,Rx.fol,Rx.has]
def altOf:List Rx->Rx
 |[]=>.eps
 |x::xs=>xs.foldl .alt x
theorem q5D (l:List Rx) (e:Rx):altOf (l++[e])=if l=[] then e else .alt (altOf l) e:=by
 rcases l with _|⟨x,xs⟩
 ·rfl
 ·simp[altOf]
theorem q8x:∀(l:List Rx) (e:Rx),SemEq (altOf (l++[e])) (l.foldr .alt e):=by
 have key:∀(l:List Rx) (x e:Rx),SemEq ((l++[e]).foldl .alt x) (.alt x (l.foldr .alt e)):=by
  intro l
  induction l with
  |nil=>intro x e;exact SemEq.refl _
  |cons y l ih=>
   intro x e;simp only[List.cons_append,List.foldl_cons,List.foldr_cons];exact(ih (.alt x y) e).trans (SemEq.alt_assoc _ _ _)
 intro l e;rcases l with _|⟨x,xs⟩
 ·exact SemEq.refl _
 ·exact key xs x e
structure Ext (T T':Nat->Nd) (lo n:Nat):Prop where
 k:∀i,i<=n->(T' i).kind=(T i).kind/\(T' i).kids=(T i).kids/\(T' i).inn=(T i).inn
 u:∀i,lo<=i->i<n->(T' i).up=(T i).up/\(T' i).at_=(T i).at_
theorem Ext.trans {T'':Nat->Nd} (h:Ext T T' lo n) (k:Ext T' T'' lo n):Ext T T'' lo n:=
 ⟨fun i hi=>⟨(k.k i hi).1.trans (h.k i hi).1,(k.k i hi).2.1.trans (h.k i hi).2.1,(k.k i hi).2.2.trans (h.k i hi).2.2⟩,fun i h1 h2=>⟨(k.u i h1 h2).1.trans (h.u i h1 h2).1,(k.u i h1 h2).2.trans (h.u i h1 h2).2⟩⟩
theorem Ext.mono {lo':Nat} (h:Ext T T' lo n) (h1:lo<=lo') (h2:n'<=n):Ext T T' lo' n':=
 ⟨fun i hi=>h.k i (by omega),fun i a b=>h.u i (by omega) (by omega)⟩
def Stable (T:Nat->Nd) (lo n:Nat) (e:Rx):Prop:=∀T' N' nl bg bh,Ext T T' lo n->n<N'->Eqs T' N' nl bg bh->Smn T' nl bg bh lo n e
theorem Stable.eq (h:Stable T lo n e) (k:SemEq e e'):Stable T lo n e':=fun T' N' nl bg bh h1 h2 h3=>(h T' N' nl bg bh h1 h2 h3).eq k
theorem Stable.ext (h:Stable T lo n e) (k:Ext T T' lo n):Stable T' lo n e:=fun T2 N' nl bg bh h1 h2 h3=>h T2 N' nl bg bh (k.trans h1) h2 h3
inductive Unw (T:Nat->Nd):Nat->Nat->Bool->Prop
 |stop {k:Nat} (h1:(T k).kind≠3) (h2:(T k).kids.length≠1) (h3:∀c d,(T k).kids=[c,d]->(T k).kind=2->¬((T d).kind=1/\(T d).kids=[])):Unw T k k false
 |star {k c k':Nat}{b:Bool} (h1:(T k).kind=3) (h2:(T k).kids=[c]) (h:Unw T c k' b):Unw T k k' true
 |one {k c k':Nat}{b:Bool} (h1:(T k).kind≠3) (h2:(T k).kids=[c]) (h:Unw T c k' b):Unw T k k' b
 |may {k c d k':Nat}{b:Bool} (h1:(T k).kind=2) (h2:(T k).kids=[c,d]) (h3:(T d).kind=1) (h4:(T d).kids=[]) (h:Unw T c k' b):Unw T k k' true
def Wf (T:Nat->Nd) (N:Nat):Prop:=∀i,i<N->∀c∈(T i).kids,c<i
theorem Unw.ext (hw:Wf T N) {k k':Nat}{b:Bool} (h:Unw T k k' b):k<N->(∀i,i<=k->(T' i).kind=(T i).kind/\(T' i).kids=(T i).kids)->Unw T' k k' b:=by
 induction h with
 |stop h1 h2 h3=>
  intro hk he;rename_i k;obtain⟨e1,e2⟩:=he k (Nat.le_refl _);refine Unw.stop (by rw[e1];exact h1) (by rw[e2];exact h2) (fun c d h4 h5 h6=>?_);rw[e2]at h4;have hd:=hw k hk d (by rw[h4];simp);obtain⟨e3,e4⟩:=he d (by omega);rw[e3,e4]at h6;exact h3 c d h4 (by rw[<-e1];exact h5) h6
 |star h1 h2 h ih=>
  intro hk he;rename_i k c k' b;obtain⟨e1,e2⟩:=he k (Nat.le_refl _);have hc:=hw k hk c (by rw[h2];simp);exact Unw.star (by rw[e1];exact h1) (by rw[e2];exact h2) (ih (by omega) (fun i hi=>he i (by omega)))
 |one h1 h2 h ih=>
  intro hk he;rename_i k c k' b;obtain⟨e1,e2⟩:=he k (Nat.le_refl _);have hc:=hw k hk c (by rw[h2];simp);exact Unw.one (by rw[e1];exact h1) (by rw[e2];exact h2) (ih (by omega) (fun i hi=>he i (by omega)))
 |may h1 h2 h3 h4 h ih=>
  intro hk he;rename_i k c d k' b;obtain⟨e1,e2⟩:=he k (Nat.le_refl _);have hc:=hw k hk c (by rw[h2];simp);have hd:=hw k hk d (by rw[h2];simp);obtain⟨e3,e4⟩:=he d (by omega);exact Unw.may (by rw[e1];exact h1) (by rw[e2];exact h2) (by rw[e3];exact h3) (by rw[e4];exact h4) (ih (by omega) (fun i hi=>he i (by omega)))
structure LoopEq (a b:Rx):Prop where
 s:a.sz=b.sz
 f:∀o p,a.fst o p=b.fst o p
 l:∀o p,a.lst o p=b.lst o p
 o:∀o p q,(a.fol o p q || (a.lst o p&&a.fst o q))=(b.fol o p q || (b.lst o p&&b.fst o q))
 h:∀o p c,a.has o p c=b.has o p c
theorem LoopEq.of {a b:Rx} (h:SemEq a b):LoopEq a b:=⟨h.s,h.f,h.l,fun o p q=>by rw[h.o,h.l,h.f],h.h⟩
theorem LoopEq.trans {a b c:Rx} (h:LoopEq a b) (k:LoopEq b c):LoopEq a c:=⟨h.s.trans k.s,fun _ _=>(h.f _ _).trans (k.f _ _),fun _ _=>(h.l _ _).trans (k.l _ _),fun _ _ _=>(h.o _ _ _).trans (k.o _ _ _),fun _ _ _=>(h.h _ _ _).trans (k.h _ _ _)⟩
structure Good (T:Nat->Nd) (N lo k:Nat) (e:Rx):Prop where
 lt:k<N
 ge:lo<=k
 cl:clN T (k+1)=clN T lo+e.sz
 st:Stable T lo k e
 un:∃k' b e',Unw T k k' b/\lo<=k'/\k'<=k/\Stable T lo k' e'/\clN T (k'+1)=clN T (k+1)/\LoopEq e' e/\(b=false->e'.nul=e.nul)/\(b=true->e.nul=true)
variable {e2 : Rx}
theorem Good.eq (h:Good T N lo k e) (q:SemEq e e2):Good T N lo k e2:=by
 refine⟨h.lt,h.ge,by rw[<-q.s];exact h.cl,h.st.eq q,?_⟩;obtain⟨k',b,e',h1,h2,h3,h4,h5,h6,h7,h8⟩:=h.un;exact⟨k',b,e',h1,h2,h3,h4,h5,h6.trans (LoopEq.of q),fun hb=>by rw[h7 hb,q.n],fun hb=>by rw[<-q.n];exact h8 hb⟩
theorem Good.ext (hw:Wf T N) (h:Good T N lo k e) (hx:Ext T T' lo k) (hN:N<=N'):Good T' N' lo k e:=by
 have hc:∀n,n<=k+1->clN T' n=clN T n:=fun n hn=>q3A n (fun i hi=>(hx.k i (by omega)).1)
 refine⟨by have:=h.lt;omega,h.ge,by rw[hc _ (by omega),hc _ (by have:=h.ge;omega)];exact h.cl,h.st.ext hx,?_⟩;obtain⟨k',b,e',h1,h2,h3,h4,h5,h6⟩:=h.un;exact⟨k',b,e',h1.ext hw h.lt (fun i hi=>⟨(hx.k i hi).1,(hx.k i hi).2.1⟩),h2,h3,h4.ext (hx.mono (Nat.le_refl _) h3),by rw[hc _ (by omega),hc _ (by omega)];exact h5,h6⟩
inductive Chain (T:Nat->Nd) (N:Nat):Nat->List Nat->List Rx->Nat->Prop
 |nil (lo:Nat):Chain T N lo [] [] lo
 |snoc {lo h k:Nat}{ks:List Nat}{es:List Rx}{e:Rx} (c:Chain T N lo ks es h) (g:Good T N h k e):Chain T N lo (ks++[k]) (es++[e]) (k+1)
theorem Chain.le {es:List Rx} (c:Chain T N lo ks es h):lo<=h/\ks.length=es.length/\(∀k∈ks,lo<=k/\k<h)/\(ks≠[]->h<=N):=by
 induction c with
 |nil=>exact⟨Nat.le_refl _,rfl,by simp,by simp⟩
 |snoc c g ih=>
  obtain⟨h1,h2,h3,h4⟩:=ih;have:=g.ge;refine⟨by omega,by simp[h2],fun x hx=>?_,fun _=>g.lt⟩;rcases List.mem_append.1 hx with h|h
  ·have:=h3 x h;omega
  ·rw[List.mem_singleton.1 h];omega
theorem Chain.cl {es:List Rx} (c:Chain T N lo ks es h):clN T h=clN T lo+(es.map Rx.sz).sum:=by
 induction c with
 |nil=>simp
 |snoc c g ih=>rw[g.cl,ih];simp;omega
theorem y2c (l:List Rx):(altOf l).sz=(l.map Rx.sz).sum:=by
 have key:∀(l:List Rx) (x:Rx),(l.foldl .alt x).sz=x.sz+(l.map Rx.sz).sum:=by
  intro l
  induction l with
  |nil=>intro x;simp
  |cons y l ih=>intro x;simp only[List.foldl_cons,ih,Rx.sz,List.map_cons,List.sum_cons];omega
 rcases l with _|⟨x,l⟩
 ·rfl
 ·simp[altOf,key]
theorem Chain.ext {es:List Rx} (hw:Wf T N) (c:Chain T N lo ks es h) (hk:∀i,i<h->(T' i).kind=(T i).kind/\(T' i).kids=(T i).kids/\(T' i).inn=(T i).inn)
  (hu:∀i,lo<=i->i<h->i ∉ ks->(T' i).up=(T i).up/\(T' i).at_=(T i).at_) (hN:N<=N'):Chain T' N' lo ks es h:=by
 induction c with
 |nil=>exact Chain.nil _
 |snoc c g ih=>
  rename_i h k ks es e;obtain⟨h1,_,h3,_⟩:=c.le;have hg:=g.ge;refine Chain.snoc (ih (fun i hi=>hk i (by omega)) (fun i a b hn=>hu i a (by omega) (fun hm=>?_))) (g.ext hw ⟨fun i hi=>hk i (by omega),fun i a b=>hu i (by omega) (by omega) (fun hm=>?_)⟩ hN)
  ·rcases List.mem_append.1 hm with hm|hm
   ·exact hn hm
   ·rw[List.mem_singleton.1 hm]at b;omega
  ·rcases List.mem_append.1 hm with hm|hm
   ·have:=h3 i hm;omega
   ·rw[List.mem_singleton.1 hm]at b;omega
inductive CS (T:Nat->Nd) (nl:Nat->Bool) (bg:Nat->Nat->Bool) (bh:Nat->Option Nat->Bool):Nat->List Nat->List Rx->Nat->Prop
 |nil (lo:Nat):CS T nl bg bh lo [] [] lo
 |snoc {lo h k:Nat}{ks:List Nat}{es:List Rx}{e:Rx} (c:CS T nl bg bh lo ks es h) (hk:h<=k) (g:Smn T nl bg bh h k e):CS T nl bg bh lo (ks++[k]) (es++[e]) (k+1)
theorem CS.le {bh:Nat->Option Nat->Bool}{es:List Rx} (c:CS T nl bg bh lo ks es h):lo<=h:=by
 induction c with
 |nil=>exact Nat.le_refl _
 |snoc c hk g ih=>omega
theorem CS.none {bh:Nat->Option Nat->Bool}{es:List Rx} (c:CS T nl bg bh lo ks es h) (hk:ks=[]):lo=h:=by
 cases c with
 |nil=>rfl
 |snoc c hk g=>simp at hk
theorem Chain.cs {es:List Rx}{bh:Nat->Option Nat->Bool} (c:Chain T N lo ks es h) (hk:∀i,i<h->(T' i).kind=(T i).kind/\(T' i).kids=(T i).kids/\(T' i).inn=(T i).inn)
  (hu:∀i,lo<=i->i<h->i ∉ ks->(T' i).up=(T i).up/\(T' i).at_=(T i).at_) (hN:h<=N') (hE:Eqs T' N' nl bg bh):CS T' nl bg bh lo ks es h:=by
 induction c with
 |nil=>exact CS.nil _
 |snoc c g ih=>
  rename_i h k ks es e;obtain⟨h1,_,h3,_⟩:=c.le;have hg:=g.ge;refine CS.snoc (ih (fun i hi=>hk i (by omega)) (fun i a b hn=>hu i a (by omega) (fun hm=>?_)) (by omega)) hg (g.st T' N' nl bg bh ⟨fun i hi=>hk i (by omega),fun i a b=>hu i (by omega) (by omega) (fun hm=>?_)⟩ (by omega) hE)
  ·rcases List.mem_append.1 hm with hm|hm
   ·exact hn hm
   ·rw[List.mem_singleton.1 hm]at b;omega
  ·rcases List.mem_append.1 hm with hm|hm
   ·have:=h3 i hm;omega
   ·rw[List.mem_singleton.1 hm]at b;omega
theorem q2S (b e:Nat->Bool) (x y:List Nat):rowB b e (x++y)=(rowB b e x || (x.all e&&rowB b e y)):=by
 induction x with
 |nil=>simp[rowB]
 |cons k x ih=>simp only[List.cons_append,rowB,ih,List.all_cons];cases b k<;>cases e k<;>simp
theorem CS.row {bh:Nat->Option Nat->Bool} (hE:Eqs T N nl bg bh) {M:Nat}{KS:List Nat} (hM:(T M).kind=1) (hMk:(T M).kids=KS) (hup:∀j k,KS[j]?=some k->k<N/\(T k).up=(M:Int)/\(T k).at_=j)
  {lo h:Nat}{ks:List Nat}{es:List Rx} (c:CS T nl bg bh lo ks es h):∀rest,KS=ks++rest ->
  clN T h=clN T lo+(Rx.rowOf es).sz/\(Rx.rowOf es).nul=ks.all nl/\(∀m,(T m).kind=0->rowB (fun k=>bg k m) nl ks=(Rx.rowOf es).fst (clN T lo) (clN T m)) /\
  (∀m q,lo<=m->m<h->(T m).kind=0->(∀x,q=some x->(T x).kind=0)->bh m q=(q.any (fun x=>(Rx.rowOf es).fol (clN T lo) (clN T m) (clN T x)) || ((Rx.rowOf es).lst (clN T lo) (clN T m)&&(q.any (fun x=>rowB (fun k=>bg k x) nl rest) || (rest.all nl&&bh M q))))) /\
  (∀m b,lo<=m->m<h->(T m).kind=0->b<256->(T m).inn b=(Rx.rowOf es).has (clN T lo) (clN T m) b):=by
 induction c with
 |nil=>
  intro rest _;refine⟨by simp[Rx.rowOf,Rx.sz],by simp[Rx.rowOf,Rx.nul],fun m _=>by simp[rowB,Rx.rowOf,Rx.fst],fun m q h1 h2=>by omega,fun m b h1 h2=>by omega⟩
 |snoc c hk g ih=>
  rename_i h k ks es e;intro rest hKS;obtain⟨i1,i2,i3,i4,i5⟩:=ih (k::rest) (by rw[hKS];simp);have hlh:=c.le;obtain⟨u0,u1,u2⟩:=hup ks.length k (by rw[hKS];simp);rw[Rx.rowOf_snoc];have hdrop:KS.drop (ks.length+1)=rest:=by rw[hKS];simp
  have hbk:∀q,bh k q=(q.any (fun x=>rowB (fun k=>bg k x) nl rest) || (rest.all nl&&bh M q)):=fun q=>by
   rw[hE.bh1 k M q u0 u1 hM,hMk,u2,hdrop]
  have ho:=i1.symm;refine⟨?_,?_,fun m hm=>?_,fun m q h1 h2 h3 h4=>?_,fun m b h1 h2 h3 h4=>?_⟩
  ·rw[g.c,Rx.sz];omega
  ·simp only[Rx.nul,i2,List.all_append,List.all_cons,List.all_nil,Bool.and_true,g.e0]
  ·simp only[q2S,rowB,Rx.fst,i3 m hm,ho,i2,Bool.and_false,Bool.or_false,g.f m hm]
  ·simp only[Rx.fol,Rx.lst,ho];by_cases hmh:m<h
   ·have hc1:=q4S h3 hmh;rw[i4 m q h1 hmh h3 h4];have z1:∀x,e.fol (clN T h) (clN T m) x=false:=fun x=>Rx.fol_lt (Or.inl hc1)
    have z2:e.lst (clN T h) (clN T m)=false:=Rx.lst_lt (Or.inl hc1);simp only[z1,z2,Bool.or_false,Bool.false_or,List.all_cons,g.e0];rcases q with _|x
    ·simp only[Option.any_none,Bool.false_or];cases (Rx.rowOf es).lst (clN T lo) (clN T m)<;>cases e.nul<;>simp
    ·simp only[Option.any_some,rowB,g.e0,g.f x (h4 x rfl)];cases (Rx.rowOf es).fol (clN T lo) (clN T m) (clN T x)<;>cases (Rx.rowOf es).lst (clN T lo) (clN T m)<;>cases e.nul<;>cases e.fst (clN T h) (clN T x)<;>simp
   ·have hc1:=q1V T (show h<=m by omega);rw[g.b m q (by omega) (by omega) h3 h4,hbk];have z1:∀x,(Rx.rowOf es).fol (clN T lo) (clN T m) x=false:=fun x=>Rx.fol_lt (Or.inr (Or.inl (by omega)))
    have z2:(Rx.rowOf es).lst (clN T lo) (clN T m)=false:=Rx.lst_lt (Or.inr (by omega));simp only[z1,z2,Bool.and_false,Bool.or_false,Bool.false_or,Bool.false_and]
  ·simp only[Rx.has,ho];by_cases hmh:m<h
   ·have hc1:=q4S h3 hmh;rw[i5 m b h1 hmh h3 h4,Rx.has_lt (e:=e) (Or.inl hc1),Bool.or_false]
   ·have hc1:=q1V T (show h<=m by omega);rw[g.h m b (by omega) (by omega) h3 h4,Rx.has_lt (e:=Rx.rowOf es) (Or.inr (by omega)),Bool.false_or]
theorem CS.choice {bh:Nat->Option Nat->Bool} (hE:Eqs T N nl bg bh) {M:Nat} (hM:(T M).kind=2)
  {lo h:Nat}{ks:List Nat}{es:List Rx} (c:CS T nl bg bh lo ks es h):(∀k∈ks,k<N/\(T k).up=(M:Int))->ks≠[] ->
  clN T h=clN T lo+(altOf es).sz/\(altOf es).nul=ks.any nl/\(∀m,(T m).kind=0->ks.any (fun k=>bg k m)=(altOf es).fst (clN T lo) (clN T m)) /\
  (∀m q,lo<=m->m<h->(T m).kind=0->(∀x,q=some x->(T x).kind=0)->bh m q=(q.any (fun x=>(altOf es).fol (clN T lo) (clN T m) (clN T x)) || ((altOf es).lst (clN T lo) (clN T m)&&bh M q))) /\
  (∀m b,lo<=m->m<h->(T m).kind=0->b<256->(T m).inn b=(altOf es).has (clN T lo) (clN T m) b):=by
 induction c with
 |nil=>intro _ h;exact absurd rfl h
 |snoc c hk g ih=>
  rename_i h k ks es e;intro hup _;have hlh:=c.le;obtain⟨u0,u1⟩:=hup k (by simp);have hbk:∀q,bh k q=bh M q:=fun q=>hE.bh2 k M q u0 u1 hM
  have hnil:ks=[]<->es=[]:=by
   cases c with
   |nil=>simp
   |snoc c hk g=>simp
  by_cases hks:ks=[]
  ·have hes:=hnil.1 hks;subst hks;subst hes;have hlo:=c.none rfl;subst hlo;rw[q5D,if_pos rfl];refine⟨g.c,by simp[g.e0],fun m hm=>by simp[g.f m hm],fun m q h1 h2 h3 h4=>by rw[g.b m q h1 (by omega) h3 h4,hbk],fun m b h1 h2 h3 h4=>g.h m b h1 (by omega) h3 h4⟩
  ·obtain⟨i1,i2,i3,i4,i5⟩:=ih (fun x hx=>hup x (by simp[hx])) hks;rw[q5D,if_neg (fun x=>hks (hnil.2 x))];have ho:=i1.symm;refine⟨?_,?_,fun m hm=>?_,fun m q h1 h2 h3 h4=>?_,fun m b h1 h2 h3 h4=>?_⟩
   ·rw[g.c,Rx.sz];omega
   ·simp only[Rx.nul,i2,List.any_append,List.any_cons,List.any_nil,Bool.or_false,g.e0]
   ·simp only[List.any_append,List.any_cons,List.any_nil,Bool.or_false,Rx.fst,i3 m hm,ho,g.f m hm]
   ·simp only[Rx.fol,Rx.lst,ho];by_cases hmh:m<h
    ·have hc1:=q4S h3 hmh;rw[i4 m q h1 hmh h3 h4];have z1:∀x,e.fol (clN T h) (clN T m) x=false:=fun x=>Rx.fol_lt (Or.inl hc1)
     have z2:e.lst (clN T h) (clN T m)=false:=Rx.lst_lt (Or.inl hc1);simp only[z1,z2,Bool.or_false]
    ·have hc1:=q1V T (show h<=m by omega);rw[g.b m q (by omega) (by omega) h3 h4,hbk];have z1:∀x,(altOf es).fol (clN T lo) (clN T m) x=false:=fun x=>Rx.fol_lt (Or.inr (Or.inl (by omega)))
     have z2:(altOf es).lst (clN T lo) (clN T m)=false:=Rx.lst_lt (Or.inr (by omega));simp only[z1,z2,Bool.false_or]
   ·simp only[Rx.has,ho];by_cases hmh:m<h
    ·have hc1:=q4S h3 hmh;rw[i5 m b h1 hmh h3 h4,Rx.has_lt (e:=e) (Or.inl hc1),Bool.or_false]
    ·have hc1:=q1V T (show h<=m by omega);rw[g.h m b (by omega) (by omega) h3 h4,Rx.has_lt (e:=altOf es) (Or.inr (by omega)),Bool.false_or]
def addN (T:Nat->Nd) (N kind:Nat) (kids:List Nat) (inn:Nat->Bool):Nat->Nd:=fun i=>
 if i=N then ⟨kind,kids,-1,0,inn⟩ else if i∈kids then { T i with up:=N,at_:=kids.idxOf i } else T i
theorem q0r (T:Nat->Nd) (N kind:Nat) (kids:List Nat) (inn:Nat->Bool):addN T N kind kids inn N=⟨kind,kids,-1,0,inn⟩:=by simp[addN]
theorem q0X (h:i<N):(addN T N kind kids inn i).kind=(T i).kind/\(addN T N kind kids inn i).kids=(T i).kids/\(addN T N kind kids inn i).inn=(T i).inn:=by
 unfold addN;rw[if_neg (by omega)];split<;>exact⟨rfl,rfl,rfl⟩
theorem q1g (h:i<N) (hn:i ∉ kids):addN T N kind kids inn i=T i:=by
 unfold addN;rw[if_neg (by omega),if_neg hn]
theorem q6I (hd:kids.Nodup) (hj:kids[j]?=some k) (h:k<N):(addN T N kind kids inn k).up=(N:Int)/\(addN T N kind kids inn k).at_=j:=by
 unfold addN;rw[if_neg (by omega),if_pos (List.mem_of_getElem? hj)];refine⟨rfl,?_⟩;obtain⟨h1,h2⟩:=List.getElem?_eq_some_iff.1 hj;show kids.idxOf k=j;rw[<-h2];exact hd.idxOf_getElem j h1
theorem Wf.add (h:Wf T N) (hk:∀k∈kids,k<N):Wf (addN T N kind kids inn) (N+1):=fun i hi c hc=>by
 by_cases e:i=N
 ·subst e;rw[q0r]at hc;exact hk c hc
 ·rw[(q0X (show i<N by omega)).2.1]at hc;exact h i (by omega) c hc
def Upf (T:Nat->Nd) (N:Nat):Prop:=∀i,i<N->(T i).up=-1\/((i:Int)<(T i).up/\(T i).up<N)
theorem Upf.add (h:Upf T N):Upf (addN T N kind kids inn) (N+1):=fun i hi=>by
 unfold addN;by_cases e:i=N
 ·rw[if_pos e];exact Or.inl rfl
 ·rw[if_neg e];split
  ·exact Or.inr ⟨by show(i:Int)<N;omega,by show(N:Int)<((N+1:Nat):Int);omega⟩
  ·have:=h i (by omega);omega
theorem q1Y (h:n<=N):clN (addN T N kind kids inn) n=clN T n:=q3A n (fun i hi=>(q0X (by omega)).1)
theorem Chain.nodup {es:List Rx} (c:Chain T N lo ks es h):ks.Nodup:=by
 induction c with
 |nil=>exact List.nodup_nil
 |snoc c g ih=>
  rename_i h k ks es e;refine List.nodup_append.2 ⟨ih,by simp,fun a ha b hb=>?_⟩;have h1:=c.le.2.2.1 a ha;have h2:=g.ge;rw[List.mem_singleton.1 hb];omega
theorem Chain.inv {L:List Nat}{es:List Rx} (c:Chain T N lo L es h):∀ks k,L=ks++[k]->∃es' e h',es=es'++[e]/\h=k+1/\Chain T N lo ks es' h'/\Good T N h' k e:=by
 intro ks k hL;cases c with
 |nil=>simp at hL
 |snoc c g=>
  obtain⟨h1,h2⟩:=List.append_inj' hL rfl;simp at h2;subst h1;subst h2;exact⟨_,_,_,rfl,rfl,c,g⟩
theorem Chain.nil_inv {es:List Rx} (c:Chain T N lo [] es h):es=[]/\h=lo:=by
 generalize hz:([]:List Nat)=z at c;cases c with
 |nil=>exact⟨rfl,rfl⟩
 |snoc c g=>simp at hz
theorem Chain.one {es:List Rx} (c:Chain T N lo [k] es h):∃e,es=[e]/\h=k+1/\Good T N lo k e:=by
 obtain⟨es',e,h',h1,h2,h3,h4⟩:=c.inv [] k rfl;obtain⟨rfl,rfl⟩:=h3.nil_inv;exact⟨e,h1,h2,h4⟩
theorem Chain.two {es:List Rx} (c:Chain T N lo [k,j] es h):∃e f,es=[e,f]/\h=j+1/\Good T N lo k e/\Good T N (k+1) j f:=by
 obtain⟨es',e,h',h1,h2,h3,h4⟩:=c.inv [k] j rfl;obtain⟨e2,rfl,rfl,h5⟩:=h3.one;exact⟨e2,e,h1,h2,h5,h4⟩
structure Fine (T:Nat->Nd) (N lo k:Nat) (e:Rx):Prop extends Good T N lo k e where
 br:(T k).kind=1->(T k).kids=[]->e.sz=0/\e.nul=true
theorem Fine.eq (h:Fine T N lo k e) (q:SemEq e e2):Fine T N lo k e2:=
 ⟨h.toGood.eq q,fun h1 h2=>by obtain⟨a,b⟩:=h.br h1 h2;exact⟨by rw[<-q.s];exact a,by rw[<-q.n];exact b⟩⟩
theorem q8d (T:Nat->Nd) (N:Nat) (inn:Nat->Bool):Fine (addN T N 0 [] inn) (N+1) N N (.lit inn):=by
 have hst:Stable (addN T N 0 [] inn) N N (.lit inn):=by
  intro T' N' nl bg bh hx hN hE;obtain⟨k1,k2,k3⟩:=hx.k N (Nat.le_refl _);rw[q0r]at k1 k2 k3;have k1':=k1;have hc:clN T' (N+1)=clN T' N+1:=by simp[clN,k1']
  refine⟨hc,hE.nl0 N hN k1,fun m hm=>?_,fun m q h1 h2 h3 h4=>?_,fun m b h1 h2 h3 h4=>?_⟩
  ·rw[hE.bg0 N m hN k1];simp only[Rx.fst];rcases Nat.lt_trichotomy m N with h|h|h
   ·have:=q4S hm h;rw[show(N==m)=false by simp;omega,show(clN T' m==clN T' N)=false by simp;omega]
   ·subst h;simp
   ·have:=q1V T' (show N+1<=m from h);rw[show(N==m)=false by simp;omega,show(clN T' m==clN T' N)=false by simp;omega]
  ·have:m=N:=by omega
   subst this;simp only[Rx.fol,Rx.lst,beq_self_eq_true,Bool.true_and];cases q<;>simp
  ·have:m=N:=by omega
   subst this;rw[k3];simp[Rx.has]
 refine⟨⟨by omega,Nat.le_refl _,by simp[clN,q0r,Rx.sz],hst,N,false,.lit inn,Unw.stop (by rw[q0r];simp) (by rw[q0r];simp) (fun c d h=>by rw[q0r]at h;cases h),Nat.le_refl _,Nat.le_refl _,hst,rfl,LoopEq.of (SemEq.refl _),fun _=>rfl,(fun h=>by cases h)⟩,fun h=>?_⟩;rw[q0r]at h;cases h
theorem q5V {es:List Rx} (hw:Wf T N) (c:Chain T N lo ks es N):Fine (addN T N 1 ks (fun _=>false)) (N+1) lo N (Rx.rowOf es):=by
 obtain⟨l1,l2,l3,_⟩:=c.le;have hnd:=c.nodup;have hst:Stable (addN T N 1 ks (fun _=>false)) lo N (Rx.rowOf es):=by
  intro T' N' nl bg bh hx hN hE;obtain⟨k1,k2,_⟩:=hx.k N (Nat.le_refl _);rw[q0r]at k1 k2;simp only at k1 k2;have hcs:=c.cs (T':=T') (N':=N') (fun i hi=>by
   obtain⟨a1,a2,a3⟩:=hx.k i (by omega);obtain⟨b1,b2,b3⟩:=q0X (T:=T) (kind:=1) (kids:=ks) (inn:=fun _=>false) hi;exact⟨a1.trans b1,a2.trans b2,a3.trans b3⟩) (fun i h1 h2 h3=>by
   obtain⟨a1,a2⟩:=hx.u i h1 h2;rw[q1g h2 h3]at a1 a2;exact⟨a1,a2⟩) (by omega) hE
  obtain⟨r1,r2,r3,r4,r5⟩:=CS.row hE k1 k2 (fun j k hj=>by
   have hk:=l3 k (List.mem_of_getElem? hj);obtain⟨a1,a2⟩:=hx.u k hk.1 hk.2;obtain⟨b1,b2⟩:=q6I (T:=T) (kind:=1) (inn:=fun _=>false) hnd hj hk.2;exact⟨by omega,a1.trans b1,a2.trans b2⟩) hcs [] (by simp)
  have hc:clN T' (N+1)=clN T' N:=by simp[clN,k1]
  refine⟨by rw[hc];exact r1,by rw[hE.nl1 N hN (Or.inl k1),k2];exact r2.symm,fun m hm=>by rw[hE.bg1 N m hN k1,k2];exact r3 m hm,fun m q h1 h2 h3 h4=>?_,fun m b h1 h2 h3 h4=>?_⟩
  ·have hm:m<N:=by
    rcases Nat.lt_or_ge m N with h|h
    ·exact h
    ·have:m=N:=by omega
     rw[this,k1]at h3;cases h3
   rw[r4 m q h1 hm h3 h4];cases q<;>simp[rowB]
  ·have hm:m<N:=by
    rcases Nat.lt_or_ge m N with h|h
    ·exact h
    ·have:m=N:=by omega
     rw[this,k1]at h3;cases h3
   exact r5 m b h1 hm h3 h4
 have hcl:clN (addN T N 1 ks (fun _=>false)) (N+1)=clN (addN T N 1 ks (fun _=>false)) lo+(Rx.rowOf es).sz:=by
  rw[show clN (addN T N 1 ks (fun _=>false)) (N+1)=clN (addN T N 1 ks (fun _=>false)) N by simp[clN,q0r],q1Y (Nat.le_refl _),q1Y l1,Rx.rowOf_sz];exact c.cl
 refine⟨⟨by omega,l1,hcl,hst,?_⟩,fun _ h2=>?_⟩
 ·by_cases h1:ks.length=1
  ·obtain⟨k,rfl⟩:=List.length_eq_one_iff.1 h1;obtain⟨e,rfl,rfl,g⟩:=c.one
   ·have hx:Ext T (addN T (k+1) 1 [k] (fun _=>false)) lo k:=⟨fun i hi=>q0X (by omega),fun i a b=>by rw[q1g (by omega) (by simp;omega)];exact⟨rfl,rfl⟩⟩;obtain⟨k',b,e',u1,u2,u3,u4,u5,u6,u7,u8⟩:=(g.ext hw hx (by omega:k+1<=k+1+1)).un;refine⟨k',b,e',Unw.one (c:=k) (by rw[q0r];simp) (by rw[q0r]) u1,u2,by omega,u4,?_,u6.trans (LoopEq.of (SemEq.cat_eps e).symm),fun hb=>?_,fun hb=>?_⟩
    ·rw[u5];simp[clN,q0r]
    ·rw[u7 hb];simp[Rx.rowOf,Rx.nul]
    ·simp[Rx.rowOf,Rx.nul,u8 hb]
  ·exact⟨N,false,_,Unw.stop (by rw[q0r];simp) (by rw[q0r];exact h1) (fun c d _ h=>by rw[q0r]at h;cases h),l1,Nat.le_refl _,hst,rfl,LoopEq.of (SemEq.refl _),fun _=>rfl,fun h=>by cases h⟩
 ·rw[q0r]at h2;have:es=[]:=by
   rw[show ks=[] from h2]at l2;exact List.eq_nil_of_length_eq_zero l2.symm
  subst this;exact⟨rfl,rfl⟩
def Chain.FineL (T:Nat->Nd) (ks:List Nat) (es:List Rx):Prop:=∀(j k:Nat) (e:Rx),ks[j]?=some k->es[j]?=some e->(T k).kind=1->(T k).kids=[]->e.sz=0/\e.nul=true
theorem y2b {a b:Rx} (h:b.sz=0):LoopEq a (.alt a b):=by
 have hf:∀o p,b.fst o p=false:=fun o p=>Rx.fst_lt (by omega)
 have hl:∀o p,b.lst o p=false:=fun o p=>Rx.lst_lt (by omega)
 have ho:∀o p q,b.fol o p q=false:=fun o p q=>Rx.fol_lt (by omega)
 have hh:∀o p q,b.has o p q=false:=fun o p q=>Rx.has_lt (by omega)
 exact⟨by simp[Rx.sz,h],fun o p=>by simp[Rx.fst,hf],fun o p=>by simp[Rx.lst,hl],fun o p q=>by simp[Rx.fol,Rx.lst,Rx.fst,hf,hl,ho],fun o p c=>by simp[Rx.has,hh]⟩
theorem q4T {es:List Rx} (hw:Wf T N) (c:Chain T N lo ks es N) (hf:Chain.FineL T ks es) (hne:ks≠[]):Fine (addN T N 2 ks (fun _=>false)) (N+1) lo N (altOf es):=by
 obtain⟨l1,l2,l3,_⟩:=c.le;have hnd:=c.nodup;have hst:Stable (addN T N 2 ks (fun _=>false)) lo N (altOf es):=by
  intro T' N' nl bg bh hx hN hE;obtain⟨k1,k2,_⟩:=hx.k N (Nat.le_refl _);rw[q0r]at k1 k2;simp only at k1 k2;have hcs:=c.cs (T':=T') (N':=N') (fun i hi=>by
   obtain⟨a1,a2,a3⟩:=hx.k i (by omega);obtain⟨b1,b2,b3⟩:=q0X (T:=T) (kind:=2) (kids:=ks) (inn:=fun _=>false) hi;exact⟨a1.trans b1,a2.trans b2,a3.trans b3⟩) (fun i h1 h2 h3=>by
   obtain⟨a1,a2⟩:=hx.u i h1 h2;rw[q1g h2 h3]at a1 a2;exact⟨a1,a2⟩) (by omega) hE
  obtain⟨r1,r2,r3,r4,r5⟩:=CS.choice hE k1 hcs (fun k hk'=>by
   obtain⟨j,hj,rfl⟩:=List.mem_iff_getElem.1 hk';have hk:=l3 _ hk';obtain⟨a1,a2⟩:=hx.u _ hk.1 hk.2;obtain⟨b1,b2⟩:=q6I (T:=T) (kind:=2) (inn:=fun _=>false) hnd (List.getElem?_eq_getElem hj) hk.2;exact⟨by omega,a1.trans b1⟩) hne
  have hc:clN T' (N+1)=clN T' N:=by simp[clN,k1]
  refine⟨by rw[hc];exact r1,by rw[hE.nl2 N hN k1,k2];exact r2.symm,fun m hm=>by rw[hE.bg2 N m hN (Or.inl k1),k2];exact r3 m hm,fun m q h1 h2 h3 h4=>?_,fun m b h1 h2 h3 h4=>?_⟩
  ·have hm:m<N:=by
    rcases Nat.lt_or_ge m N with h|h
    ·exact h
    ·have:m=N:=by omega
     rw[this,k1]at h3;cases h3
   exact r4 m q h1 hm h3 h4
  ·have hm:m<N:=by
    rcases Nat.lt_or_ge m N with h|h
    ·exact h
    ·have:m=N:=by omega
     rw[this,k1]at h3;cases h3
   exact r5 m b h1 hm h3 h4
 have hcl:clN (addN T N 2 ks (fun _=>false)) (N+1)=clN (addN T N 2 ks (fun _=>false)) lo+(altOf es).sz:=by
  rw[show clN (addN T N 2 ks (fun _=>false)) (N+1)=clN (addN T N 2 ks (fun _=>false)) N by simp[clN,q0r],q1Y (Nat.le_refl _),q1Y l1,y2c];exact c.cl
 refine⟨⟨by omega,l1,hcl,hst,?_⟩,fun h=>by rw[q0r]at h;cases h⟩;by_cases h1:ks.length=1
 ·obtain⟨k,rfl⟩:=List.length_eq_one_iff.1 h1;obtain⟨e,rfl,rfl,g⟩:=c.one
  ·have hx:Ext T (addN T (k+1) 2 [k] (fun _=>false)) lo k:=⟨fun i hi=>q0X (by omega),fun i a b=>by rw[q1g (by omega) (by simp;omega)];exact⟨rfl,rfl⟩⟩;obtain⟨k',b,e',u1,u2,u3,u4,u5,u6,u7,u8⟩:=(g.ext hw hx (by omega:k+1<=k+1+1)).un;refine⟨k',b,e',Unw.one (c:=k) (by rw[q0r];simp) (by rw[q0r]) u1,u2,by omega,u4,?_,u6,u7,u8⟩;rw[u5];simp[clN,q0r]
 by_cases h2:∃c d,ks=[c,d]/\(T d).kind=1/\(T d).kids=[]
 ·obtain⟨k0,k,hxy,hb1,hb2⟩:=h2;subst hxy;obtain⟨e0,e,rfl,rfl,g1,g⟩:=c.two
  ··
    obtain⟨s1,s2⟩:=hf 1 k e rfl rfl hb1 hb2;have hgk:=g.ge;have hx:Ext T (addN T (k+1) 2 [k0,k] (fun _=>false)) lo k0:=⟨fun i hi=>q0X (by omega),fun i a b=>by rw[q1g (by omega) (by simp;omega)];exact⟨rfl,rfl⟩⟩;obtain⟨k',b,e',u1,u2,u3,u4,u5,u6,u7,u8⟩:=(g1.ext hw hx (by omega:k+1<=k+1+1)).un;obtain⟨o1,o2,_⟩:=q0X (T:=T) (kind:=2) (kids:=[k0,k]) (inn:=fun _=>false) (show k<k+1 by omega);refine⟨k',true,e',Unw.may (c:=k0) (d:=k) (by rw[q0r]) (by rw[q0r]) (by rw[o1];exact hb1) (by rw[o2];exact hb2) u1,u2,by omega,u4,?_,?_,(fun h=>by cases h),fun _=>?_⟩
    ·-- no letter stands behind the first kid
     rw[u5];have hlast:clN (addN T (k+1) 2 [k0,k] (fun _=>false)) (k+1+1)=clN (addN T (k+1) 2 [k0,k] (fun _=>false)) (k+1):=by
      rw[clN,q0r];rfl
     rw[hlast,q1Y (by omega),q1Y (by omega)];have:=g.cl;omega
    ·exact u6.trans (y2b s1)
    ·show(Rx.alt e0 e).nul=true;simp[Rx.nul,s2]
 ·exact⟨N,false,_,Unw.stop (by rw[q0r];simp) (by rw[q0r];exact h1) (fun a d h3 _ h4=>h2 (by
   rw[q0r]at h3;have hd:=l3 d (by rw[show ks=[a,d] from h3];simp);obtain⟨o1,o2,_⟩:=q0X (T:=T) (kind:=2) (kids:=ks) (inn:=fun _=>false) hd.2;exact⟨a,d,h3,by rw[<-o1];exact h4.1,by rw[<-o2];exact h4.2⟩)),l1,Nat.le_refl _,hst,rfl,LoopEq.of (SemEq.refl _),fun _=>rfl,fun h=>by cases h⟩
theorem Unw.last {k':Nat}{b:Bool} (h:Unw T k k' b):Unw T k' k' false:=by
 induction h with
 |stop h1 h2 h3=>exact Unw.stop h1 h2 h3
 |star h1 h2 h ih=>exact ih
 |one h1 h2 h ih=>exact ih
 |may h1 h2 h3 h4 h ih=>exact ih
theorem y0v (hw:Wf T (k+1)) (g:Good T (k+1) lo k e) (st:Bool):∃k' b,Unw T k k' b/\k'<=k/\lo<=k'/\Fine (addN T (k+1) (if st || b then 3 else 4) [k'] (fun _=>false)) (k+1+1) lo (k+1) (if st then .star e else .plus e):=by
 obtain⟨k',b,e',u1,u2,u3,u4,u5,u6,u7,u8⟩:=g.un;refine⟨k',b,u1,u3,u2,?_⟩;obtain⟨kd,hkd⟩:=nam ((if st || b then 3 else 4));rw[<-hkd];have hkd2:kd=3\/kd=4:=by rw[hkd];split<;>simp
 obtain⟨E,hE0⟩:=nam ((if st then Rx.star e else .plus e));rw[<-hE0];have hEf:∀o p,E.fst o p=e.fst o p:=fun o p=>by rw[hE0];split<;>rfl
 have hEl:∀o p,E.lst o p=e.lst o p:=fun o p=>by rw[hE0];split<;>rfl
 have hEo:∀o p q,E.fol o p q=(e.fol o p q || (e.lst o p&&e.fst o q)):=fun o p q=>by rw[hE0];split<;>rfl
 have hEh:∀o p c,E.has o p c=e.has o p c:=fun o p c=>by rw[hE0];split<;>rfl
 have hEs:E.sz=e.sz:=by rw[hE0];split<;>rfl
 have hEn:(kd=3->E.nul=true)/\(kd=4->e'.nul=E.nul):=by
  rw[hE0,hkd];cases st
  ·cases b
   ·exact⟨fun h=>by simp at h,fun _=>u7 rfl⟩
   ·exact⟨fun _=>u8 rfl,fun h=>by simp at h⟩
  ·exact⟨fun _=>rfl,fun h=>by simp at h⟩
 have hx0:Ext T (addN T (k+1) kd [k'] (fun _=>false)) lo k':=⟨fun i hi=>q0X (by omega),fun i a b=>by rw[q1g (by omega) (by simp;omega)];exact⟨rfl,rfl⟩⟩;have hz:clN (addN T (k+1) kd [k'] (fun _=>false)) (k+1+1)=clN (addN T (k+1) kd [k'] (fun _=>false)) (k+1):=by
  rw[clN,q0r];rcases hkd2 with h|h<;>simp[h]
 have hst:Stable (addN T (k+1) kd [k'] (fun _=>false)) lo (k+1) E:=by
  intro T' N' nl bg bh hx hN hE;obtain⟨k1,k2,_⟩:=hx.k (k+1) (Nat.le_refl _);rw[q0r]at k1 k2;simp only at k1 k2;have hS:=(u4.ext hx0) T' N' nl bg bh (hx.mono (Nat.le_refl _) (by omega)) (by omega) hE;have hcT:∀n,n<=k+1->clN T' n=clN T n:=fun n hn=>q3A n (fun i hi=>by rw[(hx.k i (by omega)).1];exact(q0X (by omega)).1)
  have hc:clN T' (k+1+1)=clN T' (k+1):=by
   rw[clN,k1];rcases hkd2 with h|h<;>simp[h]
  have hc2:clN T' (k'+1)=clN T' (k+1):=by rw[hcT _ (by omega),hcT _ (by omega)];exact u5
  have hup:(T' k').up=((k+1:Nat):Int):=by
   rw[(hx.u k' u2 (by omega)).1];exact(q6I (T:=T) (kind:=kd) (inn:=fun _=>false) (j:=0) (by simp) rfl (by omega)).1
  have hbk:∀q,bh k' q=(q.any (fun m=>bg k' m) || bh (k+1) q):=fun q=>hE.bh3 k' (k+1) q (by omega) hup (by rw[k1];exact hkd2)
  have hin:∀m,m<=k+1->(T' m).kind=0->m<=k':=fun m h1 h2=>by
   rcases Nat.lt_or_ge k' m with h|h
   ·exfalso;by_cases e:m=k+1
    ·rw[e,k1]at h2;omega
    ·have a1:=q4S h2 (show m<k+1 by omega);have a2:=q1V T' (show k'+1<=m from h);omega
   ·exact h
  refine⟨by rw[hc,<-hc2,hS.c,hEs,u6.s],?_,fun m hm=>?_,fun m q h1 h2 h3 h4=>?_,fun m b h1 h2 h3 h4=>?_⟩
  ·rcases hkd2 with h|h
   ·rw[hE.nl3 _ hN (by rw[k1];exact h),hEn.1 h]
   ·rw[hE.nl1 _ hN (Or.inr (by rw[k1];exact h)),k2];simp only[List.all_cons,List.all_nil,Bool.and_true];rw[hS.e0];exact hEn.2 h
  ·rw[hE.bg2 _ m hN (Or.inr (by rw[k1];exact hkd2)),k2];simp only[List.any_cons,List.any_nil,Bool.or_false];rw[hS.f m hm,u6.f,hEf]
  ·rw[hS.b m q h1 (hin m h2 h3) h3 h4,hbk];rcases q with _|x
   ·simp only[Option.any_none,Bool.false_or,hEl,u6.l]
   ·simp only[Option.any_some,hEl,hEo,hS.f x (h4 x rfl)];rw[<-u6.o,u6.l];cases e'.fol (clN T' lo) (clN T' m) (clN T' x)<;>cases e.lst (clN T' lo) (clN T' m)<;>cases e'.fst (clN T' lo) (clN T' x)<;>simp
  ·rw[hS.h m b h1 (hin m h2 h3) h3 h4,hEh,u6.h]
 have hlq:LoopEq e' E:=⟨by rw[hEs];exact u6.s,fun o p=>by rw[hEf];exact u6.f o p,fun o p=>by rw[hEl];exact u6.l o p,fun o p q=>by
  rw[u6.o,hEo,hEl,hEf];cases e.fol o p q<;>cases e.lst o p<;>cases e.fst o q<;>rfl,fun o p c=>by rw[hEh];exact u6.h o p c⟩
 have hcl:clN (addN T (k+1) kd [k'] (fun _=>false)) (k'+1)=clN (addN T (k+1) kd [k'] (fun _=>false)) (k+1+1):=by
  rw[hz,q1Y (by omega),q1Y (by omega)];exact u5
 refine⟨⟨by omega,by have:=g.ge;omega,?_,hst,k',kd==3,e',?_,u2,by omega,u4.ext hx0,hcl,hlq,fun hb=>?_,fun hb=>?_⟩,fun h=>?_⟩
 ·rw[hz,q1Y (by omega),q1Y (by have:=g.ge;omega),g.cl,hEs]
 ·have hU:Unw (addN T (k+1) kd [k'] (fun _=>false)) k' k' false:=u1.last.ext hw (by omega) (fun i hi=>⟨(q0X (by omega)).1,(q0X (by omega)).2.1⟩);rcases hkd2 with h|h
  ·subst h;exact Unw.star (by rw[q0r]) (by rw[q0r]) hU
  ·subst h;exact Unw.one (b:=false) (by rw[q0r];simp) (by rw[q0r]) hU
 ·rcases hkd2 with h|h
  ·rw[h]at hb;cases hb
  ·exact hEn.2 h
 ·exact hEn.1 (by simpa using hb)
 ·rw[q0r]at h;simp only at h;omega
end Go.Proofs.YtoaaklhpmhjhkaaGreat
