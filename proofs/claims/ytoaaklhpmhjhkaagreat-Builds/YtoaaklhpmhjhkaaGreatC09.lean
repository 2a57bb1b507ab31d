import Derived.WalkKit
import Derived.Test.YtoaaklhpmhjhkaaGreatSk
set_option maxRecDepth 100000
set_option maxHeartbeats 4000000
set_option linter.all false
namespace Go.Proofs.YtoaaklhpmhjhkaaGreat
inductive Rx where
 |eps
 |lit (f:Nat->Bool)
 |cat (a b:Rx)
 |alt (a b:Rx)
 |star (a:Rx)
 |plus (a:Rx)
 |opt (a:Rx)
namespace Rx
def sz:Rx->Nat
 |eps=>0
 |lit _=>1
 |cat a b=>a.sz+b.sz
 |alt a b=>a.sz+b.sz
 |star a=>a.sz
 |plus a=>a.sz
 |opt a=>a.sz
def nul:Rx->Bool
 |eps=>true
 |lit _=>false
 |cat a b=>a.nul&&b.nul
 |alt a b=>a.nul || b.nul
 |star _=>true
 |plus a=>a.nul
 |opt _=>true
def fst:Rx->Nat->Nat->Bool
 |eps,_,_=>false
 |lit _,o,p=>p==o
 |cat a b,o,p=>a.fst o p || (a.nul&&b.fst (o+a.sz) p)
 |alt a b,o,p=>a.fst o p || b.fst (o+a.sz) p
 |star a,o,p=>a.fst o p
 |plus a,o,p=>a.fst o p
 |opt a,o,p=>a.fst o p
def lst:Rx->Nat->Nat->Bool
 |eps,_,_=>false
 |lit _,o,p=>p==o
 |cat a b,o,p=>b.lst (o+a.sz) p || (b.nul&&a.lst o p)
 |alt a b,o,p=>a.lst o p || b.lst (o+a.sz) p
 |star a,o,p=>a.lst o p
 |plus a,o,p=>a.lst o p
 |opt a,o,p=>a.lst o p
def fol:Rx->Nat->Nat->Nat->Bool
 |eps,_,_,_=>false
 |lit _,_,_,_=>false
 |cat a b,o,p,q=>a.fol o p q || b.fol (o+a.sz) p q || (a.lst o p&&b.fst (o+a.sz) q)
 |alt a b,o,p,q=>a.fol o p q || b.fol (o+a.sz) p q
 |star a,o,p,q=>a.fol o p q || (a.lst o p&&a.fst o q)
 |plus a,o,p,q=>a.fol o p q || (a.lst o p&&a.fst o q)
 |opt a,o,p,q=>a.fol o p q
def has:Rx->Nat->Nat->Nat->Bool
 |eps,_,_,_=>false
 |lit f,o,p,b=>p==o&&f b
 |cat a b,o,p,c=>a.has o p c || b.has (o+a.sz) p c
 |alt a b,o,p,c=>a.has o p c || b.has (o+a.sz) p c
 |star a,o,p,c=>a.has o p c
 |plus a,o,p,c=>a.has o p c
 |opt a,o,p,c=>a.has o p c
theorem fst_rng:∀(e:Rx) (o p:Nat),e.fst o p=true->o<=p/\p<o+e.sz
 |eps,o,p,h=>by simp[fst]at h
 |lit _,o,p,h=>by simp[fst]at h;subst h;simp[sz]
 |cat a b,o,p,h=>by
  simp only[fst,Bool.or_eq_true,Bool.and_eq_true]at h;rcases h with h|⟨_,h⟩
  ·have:=fst_rng a o p h;simp only[sz];omega
  have:=fst_rng b _ p h;simp only[sz];omega
 |alt a b,o,p,h=>by
  simp only[fst,Bool.or_eq_true]at h;rcases h with h|h
  ·have:=fst_rng a o p h;simp only[sz];omega
  have:=fst_rng b _ p h;simp only[sz];omega
 |star a,o,p,h=>fst_rng a o p h
 |plus a,o,p,h=>fst_rng a o p h
 |opt a,o,p,h=>fst_rng a o p h
theorem lst_rng:∀(e:Rx) (o p:Nat),e.lst o p=true->o<=p/\p<o+e.sz
 |eps,o,p,h=>by simp[lst]at h
 |lit _,o,p,h=>by simp[lst]at h;subst h;simp[sz]
 |cat a b,o,p,h=>by
  simp only[lst,Bool.or_eq_true,Bool.and_eq_true]at h;rcases h with h|⟨_,h⟩
  ·have:=lst_rng b _ p h;simp only[sz];omega
  have:=lst_rng a _ p h;simp only[sz];omega
 |alt a b,o,p,h=>by
  simp only[lst,Bool.or_eq_true]at h;rcases h with h|h
  ·have:=lst_rng a o p h;simp only[sz];omega
  have:=lst_rng b _ p h;simp only[sz];omega
 |star a,o,p,h=>lst_rng a o p h
 |plus a,o,p,h=>lst_rng a o p h
 |opt a,o,p,h=>lst_rng a o p h
theorem fol_rng:∀(e:Rx) (o p q:Nat),e.fol o p q=true->o<=p/\p<o+e.sz/\o<=q/\q<o+e.sz
 |eps,o,p,q,h=>by simp[fol]at h
 |lit _,o,p,q,h=>by simp[fol]at h
 |cat a b,o,p,q,h=>by
  simp only[fol,Bool.or_eq_true,Bool.and_eq_true]at h;rcases h with (h|h)|⟨h,c⟩
  ·have:=fol_rng a o p q h;simp only[sz];omega
  ·have:=fol_rng b _ p q h;simp only[sz];omega
  have:=lst_rng a _ p h;have:=fst_rng b _ q c;simp only[sz];omega
 |alt a b,o,p,q,h=>by
  simp only[fol,Bool.or_eq_true]at h;rcases h with h|h
  ·have:=fol_rng a o p q h;simp only[sz];omega
  have:=fol_rng b _ p q h;simp only[sz];omega
 |star a,o,p,q,h=>by
  simp only[fol,Bool.or_eq_true,Bool.and_eq_true]at h;rcases h with h|⟨h,c⟩
  ·exact fol_rng a o p q h
  have:=lst_rng a _ p h;have:=fst_rng a _ q c;simp only[sz];omega
 |plus a,o,p,q,h=>by
  simp only[fol,Bool.or_eq_true,Bool.and_eq_true]at h;rcases h with h|⟨h,c⟩
  ·exact fol_rng a o p q h
  have:=lst_rng a _ p h;have:=fst_rng a _ q c;simp only[sz];omega
 |opt a,o,p,q,h=>fol_rng a o p q h
theorem has_rng:∀(e:Rx) (o p b:Nat),e.has o p b=true->o<=p/\p<o+e.sz
 |eps,o,p,_,h=>by simp[has]at h
 |lit _,o,p,_,h=>by simp only[has,Bool.and_eq_true,beq_iff_eq]at h;simp[sz];omega
 |cat a b,o,p,c,h=>by
  simp only[has,Bool.or_eq_true]at h;rcases h with h|h
  ·have:=has_rng a o p c h;simp only[sz];omega
  have:=has_rng b _ p c h;simp only[sz];omega
 |alt a b,o,p,c,h=>by
  simp only[has,Bool.or_eq_true]at h;rcases h with h|h
  ·have:=has_rng a o p c h;simp only[sz];omega
  have:=has_rng b _ p c h;simp only[sz];omega
 |star a,o,p,c,h=>has_rng a o p c h
 |plus a,o,p,c,h=>has_rng a o p c h
 |opt a,o,p,c,h=>has_rng a o p c h
variable {e : Rx}
theorem fst_lt {o p:Nat} (h:p<o\/o+e.sz<=p):e.fst o p=false:=by
 cases hf:e.fst o p
 ·rfl
 have:=fst_rng e o p hf;omega
theorem lst_lt {o p:Nat} (h:p<o\/o+e.sz<=p):e.lst o p=false:=by
 cases hf:e.lst o p
 ·rfl
 have:=lst_rng e o p hf;omega
variable {q : Nat}
theorem fol_lt {o p:Nat} (h:p<o\/o+e.sz<=p\/q<o\/o+e.sz<=q):e.fol o p q=false:=by
 cases hf:e.fol o p q
 ·rfl
 have:=fol_rng e o p q hf;omega
variable {b : Nat}
theorem has_lt {o p:Nat} (h:p<o\/o+e.sz<=p):e.has o p b=false:=by
 cases hf:e.has o p b
 ·rfl
 have:=has_rng e o p b hf;omega
def nz (e:Rx):Rx:=if e.sz=0 then eps else e
theorem nz_sz (e:Rx):e.nz.sz=e.sz:=by
 unfold nz;split
 ·rename_i h;rw[h];rfl
 rfl
def rowOf (l:List Rx):Rx:=l.foldl cat eps
def copies (e:Rx) (m n:Nat):List Rx:=(List.range n).map λi=>if i<m then e else opt e
def suf (kd:Int) (le mo:Nat) (e:Rx):Rx:=
 if kd=5 then star e else if kd=6 then plus e else if kd=7 then opt e else rowOf (copies e le mo)
theorem foldl_sz (l:List Rx):∀a:Rx,(l.foldl cat a).sz=a.sz+(l.map sz).sum:=by
 induction l with
 |nil=>intro a;simp
 |cons x l ih=>intro a;simp only[List.foldl_cons,ih,sz,List.map_cons,List.sum_cons];omega
theorem rowOf_sz (l:List Rx):(rowOf l).sz=(l.map sz).sum:=by unfold rowOf;rw[foldl_sz];simp[sz]
theorem rowOf_snoc (l:List Rx) (x:Rx):rowOf (l++[x])=cat (rowOf l) x:=by simp[rowOf]
theorem copies_sz (e:Rx) (m n:Nat):(rowOf (copies e m n)).sz=n*e.sz:=by
 induction n with
 |zero=>simp[copies,rowOf,sz]
 |succ n ih=>
  have:copies e m (n+1)=copies e m n++[if n<m then e else opt e]:=by simp[copies,List.range_succ]
  rw[this,rowOf_snoc,sz,ih,Nat.succ_mul];split<;>rfl
theorem copies_succ (e:Rx) (m n:Nat):copies e m (n+1)=copies e m n++[if n<m then e else opt e]:=by simp[copies,List.range_succ]
end Rx
structure Nd where
 kind:Nat
 kids:List Nat
 up:Int
 at_:Nat
 inn:Nat->Bool
def clN (T:Nat->Nd):Nat->Nat
 |0=>0
 |n+1=>clN T n+if (T n).kind=0 then 1 else 0
theorem q1V (T:Nat->Nd) {a b:Nat} (h:a<=b):clN T a<=clN T b:=by
 induction b with
 |zero=>
   have:a=0:=by omega
   subst this;exact Nat.le_refl _
 |succ b ih=>
  by_cases e:a=b+1
  ·subst e;exact Nat.le_refl _
  have:=ih (by omega);simp only[clN];omega
variable {kids ks : List Nat}{N N' h i j k kind lo m n n' : Nat}{inn nl : Nat → Bool}{bg : Nat → Nat → Bool}{T : Nat → Nd}
theorem q4S {a:Nat} (hm:(T m).kind=0) (h:m<a):clN T m<clN T a:=by
 have b:=q1V T (show m+1<=a from h);simp only[clN,hm,if_true]at b;omega
variable {T' : Nat → Nd}
theorem q3A:∀n,(∀i,i<n->(T' i).kind=(T i).kind)->clN T' n=clN T n
 |0,_=>rfl
 |n+1,h=>by simp only[clN];rw[q3A n (λi a=>h i (by omega)),h n (by omega)]
def rowB (b e:Nat->Bool):List Nat->Bool
 |[]=>false
 |k::ks=>b k || (e k&&rowB b e ks)
structure Eqs (T:Nat->Nd) (N:Nat) (nl:Nat->Bool) (bg:Nat->Nat->Bool) (bh:Nat->Option Nat->Bool):Prop where
 nl0:∀n,n<N->(T n).kind=0->nl n=false
 nl1:∀n,n<N->(T n).kind=1\/(T n).kind=4->nl n=(T n).kids.all nl
 nl2:∀n,n<N->(T n).kind=2->nl n=(T n).kids.any nl
 nl3:∀n,n<N->(T n).kind=3->nl n=true
 bg0:∀n m,n<N->(T n).kind=0->bg n m=(n==m)
 bg1:∀n m,n<N->(T n).kind=1->bg n m=rowB (fun k=>bg k m) nl (T n).kids
 bg2:∀n m,n<N->(T n).kind=2\/(T n).kind=3\/(T n).kind=4->bg n m=(T n).kids.any (fun k=>bg k m)
 bhR:∀(n:Nat) (q:Option Nat),n<N->(T n).up<0->bh n q=(q==none)
 bh1:∀(n u:Nat) (q:Option Nat),n<N->(T n).up=(u:Int)->(T u).kind=1->bh n q=(q.any (fun m=>rowB (fun k=>bg k m) nl ((T u).kids.drop ((T n).at_+1))) || (((T u).kids.drop ((T n).at_+1)).all nl&&bh u q))
 bh2:∀(n u:Nat) (q:Option Nat),n<N->(T n).up=(u:Int)->(T u).kind=2->bh n q=bh u q
 bh3:∀(n u:Nat) (q:Option Nat),n<N->(T n).up=(u:Int)->(T u).kind=3\/(T u).kind=4->bh n q=(q.any (fun m=>bg n m) || bh u q)
structure Smn (T:Nat->Nd) (nl:Nat->Bool) (bg:Nat->Nat->Bool) (bh:Nat->Option Nat->Bool) (lo n:Nat) (e:Rx):Prop where
 c:clN T (n+1)=clN T lo+e.sz
 e0:nl n=e.nul
 f:∀m,(T m).kind=0->bg n m=e.fst (clN T lo) (clN T m)
 b:∀m q,lo<=m->m<=n->(T m).kind=0->(∀x,q=some x->(T x).kind=0)->bh m q=(q.any (fun x=>e.fol (clN T lo) (clN T m) (clN T x)) || (e.lst (clN T lo) (clN T m)&&bh n q))
 h:∀m b,lo<=m->m<=n->(T m).kind=0->b<256->(T m).inn b=e.has (clN T lo) (clN T m) b
structure SemEq (a b:Rx):Prop where
 s:a.sz=b.sz
 n:a.nul=b.nul
 f:∀o p,a.fst o p=b.fst o p
 l:∀o p,a.lst o p=b.lst o p
 o:∀o p q,a.fol o p q=b.fol o p q
 h:∀o p c,a.has o p c=b.has o p c
theorem SemEq.refl (a:Rx):SemEq a a:=⟨rfl,rfl,λ_ _=>rfl,λ_ _=>rfl,λ_ _ _=>rfl,λ_ _ _=>rfl⟩
theorem SemEq.symm {a b:Rx} (h:SemEq a b):SemEq b a:=⟨h.s.symm,h.n.symm,λ_ _=>(h.f _ _).symm,λ_ _=>(h.l _ _).symm,λ_ _ _=>(h.o _ _ _).symm,λ_ _ _=>(h.h _ _ _).symm⟩
theorem SemEq.trans {a b c:Rx} (h:SemEq a b) (k:SemEq b c):SemEq a c:=⟨h.s.trans k.s,h.n.trans k.n,λ_ _=>(h.f _ _).trans (k.f _ _),λ_ _=>(h.l _ _).trans (k.l _ _),λ_ _ _=>(h.o _ _ _).trans (k.o _ _ _),λ_ _ _=>(h.h _ _ _).trans (k.h _ _ _)⟩
variable {e e' : Rx}
theorem Smn.eq {bh:Nat->Option Nat->Bool} (h:Smn T nl bg bh lo n e) (k:SemEq e e'):Smn T nl bg bh lo n e':=
 ⟨by rw[<-k.s];exact h.c,by rw[<-k.n];exact h.e0,fun m hm=>by rw[<-k.f];exact h.f m hm,
  fun m q h1 h2 h3 h4=>by
  rw[h.b m q h1 h2 h3 h4,k.l];congr 2
  funext x;exact k.o _ _ _,
  fun m b h1 h2 h3 h4=>by rw[<-k.h];exact h.h m b h1 h2 h3 h4⟩
theorem SemEq.alt_assoc (a b c:Rx):SemEq (.alt (.alt a b) c) (.alt a (.alt b c)):=by
 refine⟨?_,?_,λo p=>?_,λo p=>?_,λo p q=>?_,λo p q=>?_⟩
 ·simp only[Rx.sz];omega
 ·simp only[Rx.nul];exact Bool.or_assoc ..
 ·simp only[Rx.fst,Rx.sz,<-Nat.add_assoc];exact Bool.or_assoc ..
 ·simp only[Rx.lst,Rx.sz,<-Nat.add_assoc];exact Bool.or_assoc ..
 ·simp only[Rx.fol,Rx.sz,<-Nat.add_assoc];exact Bool.or_assoc ..
 simp only[Rx.has,Rx.sz,<-Nat.add_assoc];exact Bool.or_assoc ..
theorem SemEq.opt_alt (a:Rx):SemEq (.alt a .eps) (.opt a):=by
 refine⟨?_,?_,λo p=>?_,λo p=>?_,λo p q=>?_,λo p q=>?_⟩<;>simp[Rx.sz,Rx.nul,Rx.fst,Rx.lst,Rx.fol,Rx.has]
theorem SemEq.cat_eps (a:Rx):SemEq (.cat .eps a) a:=by
 refine⟨?_,?_,λo p=>?_,λo p=>?_,λo p q=>?_,λo p q=>?_⟩<;>simp[Rx.sz,Rx.nul,Rx.fst,Rx.lst,Rx.fol,Rx.has]
def altOf:List Rx->Rx
 |[]=>.eps
 |x::xs=>xs.foldl .alt x
theorem q5D (l:List Rx) (e:Rx):altOf (l++[e])=if l=[] then e else .alt (altOf l) e:=by
 rcases l with _|⟨x,xs⟩
 ·rfl
 simp[altOf]
theorem q8x:∀(l:List Rx) (e:Rx),SemEq (altOf (l++[e])) (l.foldr .alt e):=by
 have a:∀(l:List Rx) (x e:Rx),SemEq ((l++[e]).foldl .alt x) (.alt x (l.foldr .alt e)):=by
  intro l
  induction l with
  |nil=>intro x e;exact SemEq.refl _
  |cons y l ih=>
   intro x e;simp only[List.cons_append,List.foldl_cons,List.foldr_cons];exact(ih (.alt x y) e).trans (SemEq.alt_assoc _ _ _)
 intro l e;rcases l with _|⟨x,xs⟩
 ·exact SemEq.refl _
 exact a xs x e
structure Ext (T T':Nat->Nd) (lo n:Nat):Prop where
 k:∀i,i<=n->(T' i).kind=(T i).kind/\(T' i).kids=(T i).kids/\(T' i).inn=(T i).inn
 u:∀i,lo<=i->i<n->(T' i).up=(T i).up/\(T' i).at_=(T i).at_
theorem Ext.trans {T'':Nat->Nd} (h:Ext T T' lo n) (k:Ext T' T'' lo n):Ext T T'' lo n:=
 ⟨λi a=>⟨(k.k i a).1.trans (h.k i a).1,(k.k i a).2.1.trans (h.k i a).2.1,(k.k i a).2.2.trans (h.k i a).2.2⟩,λi b c=>⟨(k.u i b c).1.trans (h.u i b c).1,(k.u i b c).2.trans (h.u i b c).2⟩⟩
theorem Ext.mono {lo':Nat} (h:Ext T T' lo n) (h1:lo<=lo') (h2:n'<=n):Ext T T' lo' n':=
 ⟨λi c=>h.k i (by omega),λi a b=>h.u i (by omega) (by omega)⟩
def Stable (T:Nat->Nd) (lo n:Nat) (e:Rx):Prop:=∀T' N' nl bg bh,Ext T T' lo n->n<N'->Eqs T' N' nl bg bh->Smn T' nl bg bh lo n e
theorem Stable.eq (h:Stable T lo n e) (k:SemEq e e'):Stable T lo n e':=λT' N' nl bg bh a b c=>(h T' N' nl bg bh a b c).eq k
theorem Stable.ext (h:Stable T lo n e) (k:Ext T T' lo n):Stable T' lo n e:=λa N' nl bg bh b c d=>h a N' nl bg bh (k.trans b) c d
inductive Unw (T:Nat->Nd):Nat->Nat->Bool->Prop
 |stop {k:Nat} (h1:(T k).kind≠3) (h2:(T k).kids.length≠1) (h3:∀c d,(T k).kids=[c,d]->(T k).kind=2->¬((T d).kind=1/\(T d).kids=[])):Unw T k k false
 |star {k c k':Nat}{b:Bool} (h1:(T k).kind=3) (h2:(T k).kids=[c]) (h:Unw T c k' b):Unw T k k' true
 |one {k c k':Nat}{b:Bool} (h1:(T k).kind≠3) (h2:(T k).kids=[c]) (h:Unw T c k' b):Unw T k k' b
 |may {k c d k':Nat}{b:Bool} (h1:(T k).kind=2) (h2:(T k).kids=[c,d]) (h3:(T d).kind=1) (h4:(T d).kids=[]) (h:Unw T c k' b):Unw T k k' true
def Wf (T:Nat->Nd) (N:Nat):Prop:=∀i,i<N->∀c∈(T i).kids,c<i
theorem Unw.ext (hw:Wf T N) {k k':Nat}{b:Bool} (h:Unw T k k' b):k<N->(∀i,i<=k->(T' i).kind=(T i).kind/\(T' i).kids=(T i).kids)->Unw T' k k' b:=by
 induction h with
 |stop h1 h2 h3=>
  intro f a;rename_i k;obtain⟨e,e2⟩:=a k (Nat.le_refl _);refine Unw.stop (by rw[e];exact h1) (by rw[e2];exact h2) (λc d g p m=>?_);rw[e2]at g;have q:=hw k f d (by rw[g];simp);obtain⟨j,l⟩:=a d (by omega);rw[j,l]at m;exact h3 c d g (by rw[<-e];exact p) m
 |star h1 h2 h ih=>
  intro f a;rename_i k c k' b;obtain⟨e,e2⟩:=a k (Nat.le_refl _);have n:=hw k f c (by rw[h2];simp);exact Unw.star (by rw[e];exact h1) (by rw[e2];exact h2) (ih (by omega) (λi o=>a i (by omega)))
 |one h1 h2 h ih=>
  intro f a;rename_i k c k' b;obtain⟨e,e2⟩:=a k (Nat.le_refl _);have n:=hw k f c (by rw[h2];simp);exact Unw.one (by rw[e];exact h1) (by rw[e2];exact h2) (ih (by omega) (λi o=>a i (by omega)))
 |may h1 h2 h3 g h ih=>
  intro f a;rename_i k c d k' b;obtain⟨e,e2⟩:=a k (Nat.le_refl _);have n:=hw k f c (by rw[h2];simp);have q:=hw k f d (by rw[h2];simp);obtain⟨j,l⟩:=a d (by omega);exact Unw.may (by rw[e];exact h1) (by rw[e2];exact h2) (by rw[j];exact h3) (by rw[l];exact g) (ih (by omega) (λi o=>a i (by omega)))
structure LoopEq (a b:Rx):Prop where
 s:a.sz=b.sz
 f:∀o p,a.fst o p=b.fst o p
 l:∀o p,a.lst o p=b.lst o p
 o:∀o p q,(a.fol o p q || (a.lst o p&&a.fst o q))=(b.fol o p q || (b.lst o p&&b.fst o q))
 h:∀o p c,a.has o p c=b.has o p c
theorem LoopEq.of {a b:Rx} (h:SemEq a b):LoopEq a b:=⟨h.s,h.f,h.l,λo p q=>by rw[h.o,h.l,h.f],h.h⟩
theorem LoopEq.trans {a b c:Rx} (h:LoopEq a b) (k:LoopEq b c):LoopEq a c:=⟨h.s.trans k.s,λ_ _=>(h.f _ _).trans (k.f _ _),λ_ _=>(h.l _ _).trans (k.l _ _),λ_ _ _=>(h.o _ _ _).trans (k.o _ _ _),λ_ _ _=>(h.h _ _ _).trans (k.h _ _ _)⟩
structure Good (T:Nat->Nd) (N lo k:Nat) (e:Rx):Prop where
 lt:k<N
 ge:lo<=k
 cl:clN T (k+1)=clN T lo+e.sz
 st:Stable T lo k e
 un:∃k' b e',Unw T k k' b/\lo<=k'/\k'<=k/\Stable T lo k' e'/\clN T (k'+1)=clN T (k+1)/\LoopEq e' e/\(b=false->e'.nul=e.nul)/\(b=true->e.nul=true)
variable {e2 : Rx}
theorem Good.eq (h:Good T N lo k e) (q:SemEq e e2):Good T N lo k e2:=by
 refine⟨h.lt,h.ge,by rw[<-q.s];exact h.cl,h.st.eq q,?_⟩;obtain⟨o,b,e',c,d,f,g,i,j,l,m⟩:=h.un;exact⟨o,b,e',c,d,f,g,i,j.trans (LoopEq.of q),λa=>by rw[l a,q.n],λa=>by rw[<-q.n];exact m a⟩
theorem Good.ext (hw:Wf T N) (h:Good T N lo k e) (hx:Ext T T' lo k) (hN:N<=N'):Good T' N' lo k e:=by
 have a:∀n,n<=k+1->clN T' n=clN T n:=λn p=>q3A n (λi c=>(hx.k i (by omega)).1)
 refine⟨by have:=h.lt;omega,h.ge,by rw[a _ (by omega),a _ (by have:=h.ge;omega)];exact h.cl,h.st.ext hx,?_⟩;obtain⟨o,b,e',f,g,d,j,l,m⟩:=h.un;exact⟨o,b,e',f.ext hw h.lt (λi c=>⟨(hx.k i c).1,(hx.k i c).2.1⟩),g,d,j.ext (hx.mono (Nat.le_refl _) d),by rw[a _ (by omega),a _ (by omega)];exact l,m⟩
inductive Chain (T:Nat->Nd) (N:Nat):Nat->List Nat->List Rx->Nat->Prop
 |nil (lo:Nat):Chain T N lo [] [] lo
 |snoc {lo h k:Nat}{ks:List Nat}{es:List Rx}{e:Rx} (c:Chain T N lo ks es h) (g:Good T N h k e):Chain T N lo (ks++[k]) (es++[e]) (k+1)
theorem Chain.le {es:List Rx} (c:Chain T N lo ks es h):lo<=h/\ks.length=es.length/\(∀k∈ks,lo<=k/\k<h)/\(ks≠[]->h<=N):=by
 induction c with
 |nil=>exact⟨Nat.le_refl _,rfl,by simp,by simp⟩
 |snoc c g ih=>
  obtain⟨e,a,b,f⟩:=ih;have:=g.ge;refine⟨by omega,by simp[a],λx d=>?_,λ_=>g.lt⟩;rcases List.mem_append.1 d with h|h
  ·have:=b x h;omega
  rw[List.mem_singleton.1 h];omega
theorem Chain.cl {es:List Rx} (c:Chain T N lo ks es h):clN T h=clN T lo+(es.map Rx.sz).sum:=by
 induction c with
 |nil=>simp
 |snoc c g ih=>rw[g.cl,ih];simp;omega
theorem y2c (l:List Rx):(altOf l).sz=(l.map Rx.sz).sum:=by
 have a:∀(l:List Rx) (x:Rx),(l.foldl .alt x).sz=x.sz+(l.map Rx.sz).sum:=by
  intro l
  induction l with
  |nil=>intro x;simp
  |cons y l ih=>intro x;simp only[List.foldl_cons,ih,Rx.sz,List.map_cons,List.sum_cons];omega
 rcases l with _|⟨x,l⟩
 ·rfl
 simp[altOf,a]
theorem Chain.ext {es:List Rx} (hw:Wf T N) (c:Chain T N lo ks es h) (hk:∀i,i<h->(T' i).kind=(T i).kind/\(T' i).kids=(T i).kids/\(T' i).inn=(T i).inn)
  (hu:∀i,lo<=i->i<h->i ∉ ks->(T' i).up=(T i).up/\(T' i).at_=(T i).at_) (hN:N<=N'):Chain T' N' lo ks es h:=by
 induction c with
 |nil=>exact Chain.nil _
 |snoc c g ih=>
  rename_i h k ks es e;obtain⟨m,_,f,_⟩:=c.le;have n:=g.ge;refine Chain.snoc (ih (λi j=>hk i (by omega)) (λi a b l=>hu i a (by omega) (λd=>?_))) (g.ext hw ⟨λi j=>hk i (by omega),λi a b=>hu i (by omega) (by omega) (λd=>?_)⟩ hN)
  ·rcases List.mem_append.1 d with d|d
   ·exact l d
   rw[List.mem_singleton.1 d]at b;omega
  rcases List.mem_append.1 d with d|d
  ·have:=f i d;omega
  rw[List.mem_singleton.1 d]at b;omega
inductive CS (T:Nat->Nd) (nl:Nat->Bool) (bg:Nat->Nat->Bool) (bh:Nat->Option Nat->Bool):Nat->List Nat->List Rx->Nat->Prop
 |nil (lo:Nat):CS T nl bg bh lo [] [] lo
 |snoc {lo h k:Nat}{ks:List Nat}{es:List Rx}{e:Rx} (c:CS T nl bg bh lo ks es h) (hk:h<=k) (g:Smn T nl bg bh h k e):CS T nl bg bh lo (ks++[k]) (es++[e]) (k+1)
theorem CS.le {bh:Nat->Option Nat->Bool}{es:List Rx} (c:CS T nl bg bh lo ks es h):lo<=h:=by
 induction c with
 |nil=>exact Nat.le_refl _
 |snoc c hk g ih=>omega
theorem CS.none {bh:Nat->Option Nat->Bool}{es:List Rx} (c:CS T nl bg bh lo ks es h) (hk:ks=[]):lo=h:=by
 cases c with
 |nil=>rfl
 |snoc c hk g=>simp at hk
theorem Chain.cs {es:List Rx}{bh:Nat->Option Nat->Bool} (c:Chain T N lo ks es h) (hk:∀i,i<h->(T' i).kind=(T i).kind/\(T' i).kids=(T i).kids/\(T' i).inn=(T i).inn)
  (hu:∀i,lo<=i->i<h->i ∉ ks->(T' i).up=(T i).up/\(T' i).at_=(T i).at_) (hN:h<=N') (hE:Eqs T' N' nl bg bh):CS T' nl bg bh lo ks es h:=by
 induction c with
 |nil=>exact CS.nil _
 |snoc c g ih=>
  rename_i h k ks es e;obtain⟨n,_,f,_⟩:=c.le;have j:=g.ge;refine CS.snoc (ih (λi l=>hk i (by omega)) (λi a b m=>hu i a (by omega) (λd=>?_)) (by omega)) j (g.st T' N' nl bg bh ⟨λi l=>hk i (by omega),λi a b=>hu i (by omega) (by omega) (λd=>?_)⟩ (by omega) hE)
  ·rcases List.mem_append.1 d with d|d
   ·exact m d
   rw[List.mem_singleton.1 d]at b;omega
  rcases List.mem_append.1 d with d|d
  ·have:=f i d;omega
  rw[List.mem_singleton.1 d]at b;omega
theorem q2S (b e:Nat->Bool) (x y:List Nat):rowB b e (x++y)=(rowB b e x || (x.all e&&rowB b e y)):=by
 induction x with
 |nil=>simp[rowB]
 |cons k x ih=>simp only[List.cons_append,rowB,ih,List.all_cons];cases b k<;>cases e k<;>simp
theorem CS.row {bh:Nat->Option Nat->Bool} (hE:Eqs T N nl bg bh) {M:Nat}{KS:List Nat} (hM:(T M).kind=1) (hMk:(T M).kids=KS) (hup:∀j k,KS[j]?=some k->k<N/\(T k).up=(M:Int)/\(T k).at_=j)
  {lo h:Nat}{ks:List Nat}{es:List Rx} (c:CS T nl bg bh lo ks es h):∀rest,KS=ks++rest ->
  clN T h=clN T lo+(Rx.rowOf es).sz/\(Rx.rowOf es).nul=ks.all nl/\(∀m,(T m).kind=0->rowB (λk=>bg k m) nl ks=(Rx.rowOf es).fst (clN T lo) (clN T m)) /\
  (∀m q,lo<=m->m<h->(T m).kind=0->(∀x,q=some x->(T x).kind=0)->bh m q=(q.any (λx=>(Rx.rowOf es).fol (clN T lo) (clN T m) (clN T x)) || ((Rx.rowOf es).lst (clN T lo) (clN T m)&&(q.any (λx=>rowB (λk=>bg k x) nl rest) || (rest.all nl&&bh M q))))) /\
  (∀m b,lo<=m->m<h->(T m).kind=0->b<256->(T m).inn b=(Rx.rowOf es).has (clN T lo) (clN T m) b):=by
 induction c with
 |nil=>
  intro rest _;refine⟨by simp[Rx.rowOf,Rx.sz],by simp[Rx.rowOf,Rx.nul],λm _=>by simp[rowB,Rx.rowOf,Rx.fst],λm q p r=>by omega,λm b p r=>by omega⟩
 |snoc c hk g ih=>
  rename_i h k ks es e;intro rest l;obtain⟨A,y,B,C,D⟩:=ih (k::rest) (by rw[l];simp);have z:=c.le;obtain⟨u0,u1,u2⟩:=hup ks.length k (by rw[l];simp);rw[Rx.rowOf_snoc];have n:KS.drop (ks.length+1)=rest:=by rw[l];simp
  have s:∀q,bh k q=(q.any (λx=>rowB (λk=>bg k x) nl rest) || (rest.all nl&&bh M q)):=λq=>by
   rw[hE.bh1 k M q u0 u1 hM,hMk,u2,n]
  have t:=A.symm;refine⟨?_,?_,λm w=>?_,λm q p r i o=>?_,λm b p r i o=>?_⟩
  ·rw[g.c,Rx.sz];omega
  ·simp only[Rx.nul,y,List.all_append,List.all_cons,List.all_nil,Bool.and_true,g.e0]
  ·simp only[q2S,rowB,Rx.fst,B m w,t,y,Bool.and_false,Bool.or_false,g.f m w]
  ·simp only[Rx.fol,Rx.lst,t];by_cases d:m<h
   ·have a:=q4S i d;rw[C m q p d i o];have u:∀x,e.fol (clN T h) (clN T m) x=false:=λx=>Rx.fol_lt (Or.inl a)
    have v:e.lst (clN T h) (clN T m)=false:=Rx.lst_lt (Or.inl a);simp only[u,v,Bool.or_false,Bool.false_or,List.all_cons,g.e0];rcases q with _|x
    ·simp only[Option.any_none,Bool.false_or];cases (Rx.rowOf es).lst (clN T lo) (clN T m)<;>cases e.nul<;>simp
    simp only[Option.any_some,rowB,g.e0,g.f x (o x rfl)];cases (Rx.rowOf es).fol (clN T lo) (clN T m) (clN T x)<;>cases (Rx.rowOf es).lst (clN T lo) (clN T m)<;>cases e.nul<;>cases e.fst (clN T h) (clN T x)<;>simp
   have a:=q1V T (show h<=m by omega);rw[g.b m q (by omega) (by omega) i o,s];have u:∀x,(Rx.rowOf es).fol (clN T lo) (clN T m) x=false:=λx=>Rx.fol_lt (Or.inr (Or.inl (by omega)))
   have v:(Rx.rowOf es).lst (clN T lo) (clN T m)=false:=Rx.lst_lt (Or.inr (by omega));simp only[u,v,Bool.and_false,Bool.or_false,Bool.false_or,Bool.false_and]
  simp only[Rx.has,t];by_cases d:m<h
  ·have a:=q4S i d;rw[D m b p d i o,Rx.has_lt (e:=e) (Or.inl a),Bool.or_false]
  have a:=q1V T (show h<=m by omega);rw[g.h m b (by omega) (by omega) i o,Rx.has_lt (e:=Rx.rowOf es) (Or.inr (by omega)),Bool.false_or]
theorem CS.choice {bh:Nat->Option Nat->Bool} (hE:Eqs T N nl bg bh) {M:Nat} (hM:(T M).kind=2)
  {lo h:Nat}{ks:List Nat}{es:List Rx} (c:CS T nl bg bh lo ks es h):(∀k∈ks,k<N/\(T k).up=(M:Int))->ks≠[] ->
  clN T h=clN T lo+(altOf es).sz/\(altOf es).nul=ks.any nl/\(∀m,(T m).kind=0->ks.any (λk=>bg k m)=(altOf es).fst (clN T lo) (clN T m)) /\
  (∀m q,lo<=m->m<h->(T m).kind=0->(∀x,q=some x->(T x).kind=0)->bh m q=(q.any (λx=>(altOf es).fol (clN T lo) (clN T m) (clN T x)) || ((altOf es).lst (clN T lo) (clN T m)&&bh M q))) /\
  (∀m b,lo<=m->m<h->(T m).kind=0->b<256->(T m).inn b=(altOf es).has (clN T lo) (clN T m) b):=by
 induction c with
 |nil=>intro _ h;exact absurd rfl h
 |snoc c hk g ih=>
  rename_i h k ks es e;intro r _;have A:=c.le;obtain⟨u0,u1⟩:=r k (by simp);have p:∀q,bh k q=bh M q:=λq=>hE.bh2 k M q u0 u1 hM
  have n:ks=[]<->es=[]:=by
   cases c with
   |nil=>simp
   |snoc c hk g=>simp
  by_cases l:ks=[]
  ·have u:=n.1 l;subst l;subst u;have v:=c.none rfl;subst v;rw[q5D,if_pos rfl];refine⟨g.c,by simp[g.e0],λm s=>by simp[g.f m s],λm q o t d j=>by rw[g.b m q o (by omega) d j,p],λm b o t d j=>g.h m b o (by omega) d j⟩
  obtain⟨C,D,E,F,G⟩:=ih (λx B=>r x (by simp[B])) l;rw[q5D,if_neg (λx=>l (n.2 x))];have w:=C.symm;refine⟨?_,?_,λm s=>?_,λm q o t d j=>?_,λm b o t d j=>?_⟩
  ·rw[g.c,Rx.sz];omega
  ·simp only[Rx.nul,D,List.any_append,List.any_cons,List.any_nil,Bool.or_false,g.e0]
  ·simp only[List.any_append,List.any_cons,List.any_nil,Bool.or_false,Rx.fst,E m s,w,g.f m s]
  ·simp only[Rx.fol,Rx.lst,w];by_cases i:m<h
   ·have a:=q4S d i;rw[F m q o i d j];have y:∀x,e.fol (clN T h) (clN T m) x=false:=λx=>Rx.fol_lt (Or.inl a)
    have z:e.lst (clN T h) (clN T m)=false:=Rx.lst_lt (Or.inl a);simp only[y,z,Bool.or_false]
   have a:=q1V T (show h<=m by omega);rw[g.b m q (by omega) (by omega) d j,p];have y:∀x,(altOf es).fol (clN T lo) (clN T m) x=false:=λx=>Rx.fol_lt (Or.inr (Or.inl (by omega)))
   have z:(altOf es).lst (clN T lo) (clN T m)=false:=Rx.lst_lt (Or.inr (by omega));simp only[y,z,Bool.false_or]
  simp only[Rx.has,w];by_cases i:m<h
  ·have a:=q4S d i;rw[G m b o i d j,Rx.has_lt (e:=e) (Or.inl a),Bool.or_false]
  have a:=q1V T (show h<=m by omega);rw[g.h m b (by omega) (by omega) d j,Rx.has_lt (e:=altOf es) (Or.inr (by omega)),Bool.false_or]
def addN (T:Nat->Nd) (N kind:Nat) (kids:List Nat) (inn:Nat->Bool):Nat->Nd:=λi=>
 if i=N then ⟨kind,kids,-1,0,inn⟩ else if i∈kids then { T i with up:=N,at_:=kids.idxOf i } else T i
theorem q0r (T:Nat->Nd) (N kind:Nat) (kids:List Nat) (inn:Nat->Bool):addN T N kind kids inn N=⟨kind,kids,-1,0,inn⟩:=by simp[addN]
theorem q0X (h:i<N):(addN T N kind kids inn i).kind=(T i).kind/\(addN T N kind kids inn i).kids=(T i).kids/\(addN T N kind kids inn i).inn=(T i).inn:=by
 unfold addN;rw[if_neg (by omega)];split<;>exact⟨rfl,rfl,rfl⟩
theorem q1g (h:i<N) (hn:i ∉ kids):addN T N kind kids inn i=T i:=by
 unfold addN;rw[if_neg (by omega),if_neg hn]
theorem q6I (hd:kids.Nodup) (hj:kids[j]?=some k) (h:k<N):(addN T N kind kids inn k).up=(N:Int)/\(addN T N kind kids inn k).at_=j:=by
 unfold addN;rw[if_neg (by omega),if_pos (List.mem_of_getElem? hj)];refine⟨rfl,?_⟩;obtain⟨a,b⟩:=List.getElem?_eq_some_iff.1 hj;show kids.idxOf k=j;rw[<-b];exact hd.idxOf_getElem j a
theorem Wf.add (h:Wf T N) (hk:∀k∈kids,k<N):Wf (addN T N kind kids inn) (N+1):=λi b c a=>by
 by_cases e:i=N
 ·subst e;rw[q0r]at a;exact hk c a
 rw[(q0X (show i<N by omega)).2.1]at a;exact h i (by omega) c a
def Upf (T:Nat->Nd) (N:Nat):Prop:=∀i,i<N->(T i).up=-1\/((i:Int)<(T i).up/\(T i).up<N)
theorem Upf.add (h:Upf T N):Upf (addN T N kind kids inn) (N+1):=λi a=>by
 unfold addN;by_cases e:i=N
 ·rw[if_pos e];exact Or.inl rfl
 rw[if_neg e];split
 ·exact Or.inr ⟨by show(i:Int)<N;omega,by show(N:Int)<((N+1:Nat):Int);omega⟩
 have:=h i (by omega);omega
theorem q1Y (h:n<=N):clN (addN T N kind kids inn) n=clN T n:=q3A n (λi a=>(q0X (by omega)).1)
theorem Chain.nodup {es:List Rx} (c:Chain T N lo ks es h):ks.Nodup:=by
 induction c with
 |nil=>exact List.nodup_nil
 |snoc c g ih=>
  rename_i h k ks es e;refine List.nodup_append.2 ⟨ih,by simp,λa ha b d=>?_⟩;have f:=c.le.2.2.1 a ha;have i:=g.ge;rw[List.mem_singleton.1 d];omega
theorem Chain.inv {L:List Nat}{es:List Rx} (c:Chain T N lo L es h):∀ks k,L=ks++[k]->∃es' e h',es=es'++[e]/\h=k+1/\Chain T N lo ks es' h'/\Good T N h' k e:=by
 intro ks k b;cases c with
 |nil=>simp at b
 |snoc c g=>
  obtain⟨d,a⟩:=List.append_inj' b rfl;simp at a;subst d;subst a;exact⟨_,_,_,rfl,rfl,c,g⟩
theorem Chain.nil_inv {es:List Rx} (c:Chain T N lo [] es h):es=[]/\h=lo:=by
 generalize a:([]:List Nat)=z at c;cases c with
 |nil=>exact⟨rfl,rfl⟩
 |snoc c g=>simp at a
theorem Chain.one {es:List Rx} (c:Chain T N lo [k] es h):∃e,es=[e]/\h=k+1/\Good T N lo k e:=by
 obtain⟨a,e,i,b,d,f,g⟩:=c.inv [] k rfl;obtain⟨rfl,rfl⟩:=f.nil_inv;exact⟨e,b,d,g⟩
theorem Chain.two {es:List Rx} (c:Chain T N lo [k,j] es h):∃e f,es=[e,f]/\h=j+1/\Good T N lo k e/\Good T N (k+1) j f:=by
 obtain⟨a,e,m,b,d,g,i⟩:=c.inv [k] j rfl;obtain⟨e2,rfl,rfl,l⟩:=g.one;exact⟨e2,e,b,d,l,i⟩
structure Fine (T:Nat->Nd) (N lo k:Nat) (e:Rx):Prop extends Good T N lo k e where
 br:(T k).kind=1->(T k).kids=[]->e.sz=0/\e.nul=true
theorem Fine.eq (h:Fine T N lo k e) (q:SemEq e e2):Fine T N lo k e2:=
 ⟨h.toGood.eq q,λc d=>by obtain⟨a,b⟩:=h.br c d;exact⟨by rw[<-q.s];exact a,by rw[<-q.n];exact b⟩⟩
theorem q8d (T:Nat->Nd) (N:Nat) (inn:Nat->Bool):Fine (addN T N 0 [] inn) (N+1) N N (.lit inn):=by
 have a:Stable (addN T N 0 [] inn) N N (.lit inn):=by
  intro T' N' nl bg bh t i g;obtain⟨e,u,j⟩:=t.k N (Nat.le_refl _);rw[q0r]at e u j;have f:=e;have r:clN T' (N+1)=clN T' N+1:=by simp[clN,f]
  refine⟨r,g.nl0 N i e,λm s=>?_,λm q l n o p=>?_,λm b l n o p=>?_⟩
  ·rw[g.bg0 N m i e];simp only[Rx.fst];rcases Nat.lt_trichotomy m N with h|h|h
   ·have:=q4S s h;rw[show(N==m)=false by simp;omega,show(clN T' m==clN T' N)=false by simp;omega]
   ·subst h;simp
   have:=q1V T' (show N+1<=m from h);rw[show(N==m)=false by simp;omega,show(clN T' m==clN T' N)=false by simp;omega]
  ·have:m=N:=by omega
   subst this;simp only[Rx.fol,Rx.lst,beq_self_eq_true,Bool.true_and];cases q<;>simp
  have:m=N:=by omega
  subst this;rw[j];simp[Rx.has]
 refine⟨⟨by omega,Nat.le_refl _,by simp[clN,q0r,Rx.sz],a,N,false,.lit inn,Unw.stop (by rw[q0r];simp) (by rw[q0r];simp) (λc d h=>by rw[q0r]at h;cases h),Nat.le_refl _,Nat.le_refl _,a,rfl,LoopEq.of (SemEq.refl _),λ_=>rfl,(λh=>by cases h)⟩,λh=>?_⟩;rw[q0r]at h;cases h
theorem q5V {es:List Rx} (hw:Wf T N) (c:Chain T N lo ks es N):Fine (addN T N 1 ks (λ_=>false)) (N+1) lo N (Rx.rowOf es):=by
 obtain⟨G,K,Q,_⟩:=c.le;have F:=c.nodup;have v:Stable (addN T N 1 ks (λ_=>false)) lo N (Rx.rowOf es):=by
  intro T' N' nl bg bh s H x;obtain⟨n,w,_⟩:=s.k N (Nat.le_refl _);rw[q0r]at n w;simp only at n w;have D:=c.cs (T':=T') (N':=N') (λi I=>by
   obtain⟨p,r,L⟩:=s.k i (by omega);obtain⟨y,z,M⟩:=q0X (T:=T) (kind:=1) (kids:=ks) (inn:=λ_=>false) I;exact⟨p.trans y,r.trans z,L.trans M⟩) (λi l o f=>by
   obtain⟨p,r⟩:=s.u i l o;rw[q1g o f]at p r;exact⟨p,r⟩) (by omega) x
  obtain⟨R,S,U,V,W⟩:=CS.row x n w (λj k J=>by
   have E:=Q k (List.mem_of_getElem? J);obtain⟨p,r⟩:=s.u k E.1 E.2;obtain⟨y,z⟩:=q6I (T:=T) (kind:=1) (inn:=λ_=>false) F J E.2;exact⟨by omega,p.trans y,r.trans z⟩) D [] (by simp)
  have O:clN T' (N+1)=clN T' N:=by simp[clN,n]
  refine⟨by rw[O];exact R,by rw[x.nl1 N H (Or.inl n),w];exact S.symm,λm t=>by rw[x.bg1 N m H n,w];exact U m t,λm q l o f A=>?_,λm b l o f A=>?_⟩
  ·have t:m<N:=by
    rcases Nat.lt_or_ge m N with h|h
    ·exact h
    have:m=N:=by omega
    rw[this,n]at f;cases f
   rw[V m q l t f A];cases q<;>simp[rowB]
  have t:m<N:=by
   rcases Nat.lt_or_ge m N with h|h
   ·exact h
   have:m=N:=by omega
   rw[this,n]at f;cases f
  exact W m b l t f A
 have C:clN (addN T N 1 ks (λ_=>false)) (N+1)=clN (addN T N 1 ks (λ_=>false)) lo+(Rx.rowOf es).sz:=by
  rw[show clN (addN T N 1 ks (λ_=>false)) (N+1)=clN (addN T N 1 ks (λ_=>false)) N by simp[clN,q0r],q1Y (Nat.le_refl _),q1Y G,Rx.rowOf_sz];exact c.cl
 refine⟨⟨by omega,G,C,v,?_⟩,λ_ o=>?_⟩
 ·by_cases l:ks.length=1
  ·obtain⟨k,rfl⟩:=List.length_eq_one_iff.1 l;obtain⟨e,rfl,rfl,g⟩:=c.one
   ·have s:Ext T (addN T (k+1) 1 [k] (λ_=>false)) lo k:=⟨λi I=>q0X (by omega),λi a b=>by rw[q1g (by omega) (by simp;omega)];exact⟨rfl,rfl⟩⟩;obtain⟨P,b,e',u1,u2,u3,u4,u5,u6,u7,u8⟩:=(g.ext hw s (by omega:k+1<=k+1+1)).un;refine⟨P,b,e',Unw.one (c:=k) (by rw[q0r];simp) (by rw[q0r]) u1,u2,by omega,u4,?_,u6.trans (LoopEq.of (SemEq.cat_eps e).symm),λB=>?_,λB=>?_⟩
    ·rw[u5];simp[clN,q0r]
    ·rw[u7 B];simp[Rx.rowOf,Rx.nul]
    simp[Rx.rowOf,Rx.nul,u8 B]
  exact⟨N,false,_,Unw.stop (by rw[q0r];simp) (by rw[q0r];exact l) (λc d _ h=>by rw[q0r]at h;cases h),G,Nat.le_refl _,v,rfl,LoopEq.of (SemEq.refl _),λ_=>rfl,λh=>by cases h⟩
 rw[q0r]at o;have:es=[]:=by
  rw[show ks=[] from o]at K;exact List.eq_nil_of_length_eq_zero K.symm
 subst this;exact⟨rfl,rfl⟩
def Chain.FineL (T:Nat->Nd) (ks:List Nat) (es:List Rx):Prop:=∀(j k:Nat) (e:Rx),ks[j]?=some k->es[j]?=some e->(T k).kind=1->(T k).kids=[]->e.sz=0/\e.nul=true
theorem y2b {a b:Rx} (h:b.sz=0):LoopEq a (.alt a b):=by
 have d:∀o p,b.fst o p=false:=λo p=>Rx.fst_lt (by omega)
 have e:∀o p,b.lst o p=false:=λo p=>Rx.lst_lt (by omega)
 have g:∀o p q,b.fol o p q=false:=λo p q=>Rx.fol_lt (by omega)
 have f:∀o p q,b.has o p q=false:=λo p q=>Rx.has_lt (by omega)
 exact⟨by simp[Rx.sz,h],λo p=>by simp[Rx.fst,d],λo p=>by simp[Rx.lst,e],λo p q=>by simp[Rx.fol,Rx.lst,Rx.fst,d,e,g],λo p c=>by simp[Rx.has,f]⟩
theorem q4T {es:List Rx} (hw:Wf T N) (c:Chain T N lo ks es N) (hf:Chain.FineL T ks es) (hne:ks≠[]):Fine (addN T N 2 ks (λ_=>false)) (N+1) lo N (altOf es):=by
 obtain⟨M,l2,S,_⟩:=c.le;have J:=c.nodup;have B:Stable (addN T N 2 ks (λ_=>false)) lo N (altOf es):=by
  intro T' N' nl bg bh n R C;obtain⟨o,D,_⟩:=n.k N (Nat.le_refl _);rw[q0r]at o D;simp only at o D;have G:=c.cs (T':=T') (N':=N') (λi H=>by
   obtain⟨s,w,U⟩:=n.k i (by omega);obtain⟨E,Q,V⟩:=q0X (T:=T) (kind:=2) (kids:=ks) (inn:=λ_=>false) H;exact⟨s.trans E,w.trans Q,U.trans V⟩) (λi l p f=>by
   obtain⟨s,w⟩:=n.u i l p;rw[q1g p f]at s w;exact⟨s,w⟩) (by omega) C
  obtain⟨r1,r2,r3,r4,r5⟩:=CS.choice C o G (λk z=>by
   obtain⟨j,hj,rfl⟩:=List.mem_iff_getElem.1 z;have I:=S _ z;obtain⟨s,w⟩:=n.u _ I.1 I.2;obtain⟨E,Q⟩:=q6I (T:=T) (kind:=2) (inn:=λ_=>false) J (List.getElem?_eq_getElem hj) I.2;exact⟨by omega,s.trans E⟩) hne
  have X:clN T' (N+1)=clN T' N:=by simp[clN,o]
  refine⟨by rw[X];exact r1,by rw[C.nl2 N R o,D];exact r2.symm,λm A=>by rw[C.bg2 N m R (Or.inl o),D];exact r3 m A,λm q l p f t=>?_,λm b l p f t=>?_⟩
  ·have A:m<N:=by
    rcases Nat.lt_or_ge m N with h|h
    ·exact h
    have:m=N:=by omega
    rw[this,o]at f;cases f
   exact r4 m q l A f t
  have A:m<N:=by
   rcases Nat.lt_or_ge m N with h|h
   ·exact h
   have:m=N:=by omega
   rw[this,o]at f;cases f
  exact r5 m b l A f t
 have F:clN (addN T N 2 ks (λ_=>false)) (N+1)=clN (addN T N 2 ks (λ_=>false)) lo+(altOf es).sz:=by
  rw[show clN (addN T N 2 ks (λ_=>false)) (N+1)=clN (addN T N 2 ks (λ_=>false)) N by simp[clN,q0r],q1Y (Nat.le_refl _),q1Y M,y2c];exact c.cl
 refine⟨⟨by omega,M,F,B,?_⟩,λh=>by rw[q0r]at h;cases h⟩;by_cases l:ks.length=1
 ·obtain⟨k,rfl⟩:=List.length_eq_one_iff.1 l;obtain⟨e,rfl,rfl,g⟩:=c.one
  ·have n:Ext T (addN T (k+1) 2 [k] (λ_=>false)) lo k:=⟨λi H=>q0X (by omega),λi a b=>by rw[q1g (by omega) (by simp;omega)];exact⟨rfl,rfl⟩⟩;obtain⟨L,b,e',u1,u2,u3,u4,u5,u6,u7,u8⟩:=(g.ext hw n (by omega:k+1<=k+1+1)).un;refine⟨L,b,e',Unw.one (c:=k) (by rw[q0r];simp) (by rw[q0r]) u1,u2,by omega,u4,?_,u6,u7,u8⟩;rw[u5];simp[clN,q0r]
 by_cases p:∃c d,ks=[c,d]/\(T d).kind=1/\(T d).kids=[]
 ·obtain⟨v,k,K,x,y⟩:=p;subst K;obtain⟨e0,e,rfl,rfl,W,g⟩:=c.two
  ··
    obtain⟨s1,s2⟩:=hf 1 k e rfl rfl x y;have Z:=g.ge;have n:Ext T (addN T (k+1) 2 [v,k] (λ_=>false)) lo v:=⟨λi H=>q0X (by omega),λi a b=>by rw[q1g (by omega) (by simp;omega)];exact⟨rfl,rfl⟩⟩;obtain⟨L,b,e',u1,u2,u3,u4,u5,u6,u7,u8⟩:=(W.ext hw n (by omega:k+1<=k+1+1)).un;obtain⟨O,P,_⟩:=q0X (T:=T) (kind:=2) (kids:=[v,k]) (inn:=λ_=>false) (show k<k+1 by omega);refine⟨L,true,e',Unw.may (c:=v) (d:=k) (by rw[q0r]) (by rw[q0r]) (by rw[O];exact x) (by rw[P];exact y) u1,u2,by omega,u4,?_,?_,(λh=>by cases h),λ_=>?_⟩
    ·-- no letter stands behind the first kid
     rw[u5];have r:clN (addN T (k+1) 2 [v,k] (λ_=>false)) (k+1+1)=clN (addN T (k+1) 2 [v,k] (λ_=>false)) (k+1):=by
      rw[clN,q0r];rfl
     rw[r,q1Y (by omega),q1Y (by omega)];have:=g.cl;omega
    ·exact u6.trans (y2b s1)
    show(Rx.alt e0 e).nul=true;simp[Rx.nul,s2]
 exact⟨N,false,_,Unw.stop (by rw[q0r];simp) (by rw[q0r];exact l) (λa d f _ t=>p (by
  rw[q0r]at f;have Y:=S d (by rw[show ks=[a,d] from f];simp);obtain⟨O,P,_⟩:=q0X (T:=T) (kind:=2) (kids:=ks) (inn:=λ_=>false) Y.2;exact⟨a,d,f,by rw[<-O];exact t.1,by rw[<-P];exact t.2⟩)),M,Nat.le_refl _,B,rfl,LoopEq.of (SemEq.refl _),λ_=>rfl,λh=>by cases h⟩
theorem Unw.last {k':Nat}{b:Bool} (h:Unw T k k' b):Unw T k' k' false:=by
 induction h with
 |stop h1 h2 h3=>exact Unw.stop h1 h2 h3
 |star h1 h2 h ih=>exact ih
 |one h1 h2 h ih=>exact ih
 |may h1 h2 h3 h4 h ih=>exact ih
theorem y0v (hw:Wf T (k+1)) (g:Good T (k+1) lo k e) (st:Bool):∃k' b,Unw T k k' b/\k'<=k/\lo<=k'/\Fine (addN T (k+1) (if st || b then 3 else 4) [k'] (λ_=>false)) (k+1+1) lo (k+1) (if st then .star e else .plus e):=by
 obtain⟨k',b,e',u1,u2,u3,u4,u5,u6,u7,u8⟩:=g.un;refine⟨k',b,u1,u3,u2,?_⟩;obtain⟨kd,A⟩:=nam ((if st || b then 3 else 4));rw[<-A];have d:kd=3\/kd=4:=by rw[A];split<;>simp
 obtain⟨E,r⟩:=nam ((if st then Rx.star e else .plus e));rw[<-r];have y:∀o p,E.fst o p=e.fst o p:=λo p=>by rw[r];split<;>rfl
 have t:∀o p,E.lst o p=e.lst o p:=λo p=>by rw[r];split<;>rfl
 have H:∀o p q,E.fol o p q=(e.fol o p q || (e.lst o p&&e.fst o q)):=λo p q=>by rw[r];split<;>rfl
 have G:∀o p c,E.has o p c=e.has o p c:=λo p c=>by rw[r];split<;>rfl
 have z:E.sz=e.sz:=by rw[r];split<;>rfl
 have v:(kd=3->E.nul=true)/\(kd=4->e'.nul=E.nul):=by
  rw[r,A];cases st
  ·cases b
   ·exact⟨λh=>by simp at h,λ_=>u7 rfl⟩
   exact⟨λ_=>u8 rfl,λh=>by simp at h⟩
  exact⟨λ_=>rfl,λh=>by simp at h⟩
 have K:Ext T (addN T (k+1) kd [k'] (λ_=>false)) lo k':=⟨λi Z=>q0X (by omega),λi a b=>by rw[q1g (by omega) (by simp;omega)];exact⟨rfl,rfl⟩⟩;have hz:clN (addN T (k+1) kd [k'] (λ_=>false)) (k+1+1)=clN (addN T (k+1) kd [k'] (λ_=>false)) (k+1):=by
  rw[clN,q0r];rcases d with h|h<;>simp[h]
 have W:Stable (addN T (k+1) kd [k'] (λ_=>false)) lo (k+1) E:=by
  intro T' N' nl bg bh O Q F;obtain⟨w,P,_⟩:=O.k (k+1) (Nat.le_refl _);rw[q0r]at w P;simp only at w P;have C:=(u4.ext K) T' N' nl bg bh (O.mono (Nat.le_refl _) (by omega)) (by omega) F;have I:∀n,n<=k+1->clN T' n=clN T n:=λn hn=>q3A n (λi Z=>by rw[(O.k i (by omega)).1];exact(q0X (by omega)).1)
  have hc:clN T' (k+1+1)=clN T' (k+1):=by
   rw[clN,w];rcases d with h|h<;>simp[h]
  have S:clN T' (k'+1)=clN T' (k+1):=by rw[I _ (by omega),I _ (by omega)];exact u5
  have X:(T' k').up=((k+1:Nat):Int):=by
   rw[(O.u k' u2 (by omega)).1];exact(q6I (T:=T) (kind:=kd) (inn:=λ_=>false) (j:=0) (by simp) rfl (by omega)).1
  have R:∀q,bh k' q=(q.any (λm=>bg k' m) || bh (k+1) q):=λq=>F.bh3 k' (k+1) q (by omega) X (by rw[w];exact d)
  have J:∀m,m<=k+1->(T' m).kind=0->m<=k':=λm L B=>by
   rcases Nat.lt_or_ge k' m with h|h
   ·exfalso;by_cases e:m=k+1
    ·rw[e,w]at B;omega
    have a1:=q4S B (show m<k+1 by omega);have a2:=q1V T' (show k'+1<=m from h);omega
   exact h
  refine⟨by rw[hc,<-S,C.c,z,u6.s],?_,λm hm=>?_,λm q L B D M=>?_,λm b L B D M=>?_⟩
  ·rcases d with h|h
   ·rw[F.nl3 _ Q (by rw[w];exact h),v.1 h]
   rw[F.nl1 _ Q (Or.inr (by rw[w];exact h)),P];simp only[List.all_cons,List.all_nil,Bool.and_true];rw[C.e0];exact v.2 h
  ·rw[F.bg2 _ m Q (Or.inr (by rw[w];exact d)),P];simp only[List.any_cons,List.any_nil,Bool.or_false];rw[C.f m hm,u6.f,y]
  ·rw[C.b m q L (J m B D) D M,R];rcases q with _|x
   ·simp only[Option.any_none,Bool.false_or,t,u6.l]
   simp only[Option.any_some,t,H,C.f x (M x rfl)];rw[<-u6.o,u6.l];cases e'.fol (clN T' lo) (clN T' m) (clN T' x)<;>cases e.lst (clN T' lo) (clN T' m)<;>cases e'.fst (clN T' lo) (clN T' x)<;>simp
  rw[C.h m b L (J m B D) D M,G,u6.h]
 have V:LoopEq e' E:=⟨by rw[z];exact u6.s,λo p=>by rw[y];exact u6.f o p,λo p=>by rw[t];exact u6.l o p,λo p q=>by
  rw[u6.o,H,t,y];cases e.fol o p q<;>cases e.lst o p<;>cases e.fst o q<;>rfl,λo p c=>by rw[G];exact u6.h o p c⟩
 have U:clN (addN T (k+1) kd [k'] (λ_=>false)) (k'+1)=clN (addN T (k+1) kd [k'] (λ_=>false)) (k+1+1):=by
  rw[hz,q1Y (by omega),q1Y (by omega)];exact u5
 refine⟨⟨by omega,by have:=g.ge;omega,?_,W,k',kd==3,e',?_,u2,by omega,u4.ext K,U,V,λN=>?_,λN=>?_⟩,λh=>?_⟩
 ·rw[hz,q1Y (by omega),q1Y (by have:=g.ge;omega),g.cl,z]
 ·have Y:Unw (addN T (k+1) kd [k'] (λ_=>false)) k' k' false:=u1.last.ext hw (by omega) (λi Z=>⟨(q0X (by omega)).1,(q0X (by omega)).2.1⟩);rcases d with h|h
  ·subst h;exact Unw.star (by rw[q0r]) (by rw[q0r]) Y
  subst h;exact Unw.one (b:=false) (by rw[q0r];simp) (by rw[q0r]) Y
 ·rcases d with h|h
  ·rw[h]at N;cases N
  exact v.2 h
 ·exact v.1 (by simpa using N)
 rw[q0r]at h;simp only at h;omega
end Go.Proofs.YtoaaklhpmhjhkaaGreat
