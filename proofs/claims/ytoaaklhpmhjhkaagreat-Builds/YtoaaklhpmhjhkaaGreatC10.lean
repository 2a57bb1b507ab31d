import Derived.Test.YtoaaklhpmhjhkaaGreatC01
import Derived.Test.YtoaaklhpmhjhkaaGreatC09
set_option maxRecDepth 100000
set_option maxHeartbeats 4000000
set_option linter.all false
namespace Go.Proofs.YtoaaklhpmhjhkaaGreat
def nlF (T:Nat->Nd):Nat->Nat->Bool
 |0,_=>false
 |f+1,n=>if (T n).kind=0 then false else if (T n).kind=3 then true else if (T n).kind=2 then (T n).kids.any (nlF T f) else (T n).kids.all (nlF T f)
theorem q3C {l:List Nat}{f g:Nat->Bool} (h:∀k∈l,f k=g k):l.any f=l.any g:=by
 induction l with
 |nil=>rfl
 |cons x l ih=>rw[List.any_cons,List.any_cons,h x (by simp),ih (λk a=>h k (by simp[a]))]
theorem q7C {l:List Nat}{f g:Nat->Bool} (h:∀k∈l,f k=g k):l.all f=l.all g:=by
 induction l with
 |nil=>rfl
 |cons x l ih=>rw[List.all_cons,List.all_cons,h x (by simp),ih (λk a=>h k (by simp[a]))]
theorem q5k {l:List Nat}{b c e f:Nat->Bool} (h:∀k∈l,b k=c k/\e k=f k):rowB b e l=rowB c f l:=by
 induction l with
 |nil=>rfl
 |cons x l ih=>rw[rowB,rowB,(h x (by simp)).1,(h x (by simp)).2,ih (λk a=>h k (by simp[a]))]
variable {kids ks : List Nat}{r : List UInt8}{N P i k kind lo n : Nat}{inn : Nat → Bool}{T : Nat → Nd}{c : UInt8}
theorem y3z (hw:Wf T N):∀(n f g:Nat),n<N->n<f->n<g->nlF T f n=nlF T g n:=by
 intro n
 induction n using Nat.strongRecOn with
 |_ n ih=>
  intro f g b c d;obtain⟨f,rfl⟩:∃q,f=q+1:=⟨f-1,by omega⟩;obtain⟨g,rfl⟩:∃q,g=q+1:=⟨g-1,by omega⟩;have a:∀k∈(T n).kids,nlF T f k=nlF T g k:=λk a=>by
   have:=hw n b k a;exact ih k this f g (by omega) (by omega) (by omega)
  simp only[nlF];rw[q3C a,q7C a]
def bgF (T:Nat->Nd):Nat->Nat->Nat->Bool
 |0,_,_=>false
 |f+1,n,m=>if (T n).kind=0 then n==m else if (T n).kind=1 then rowB (λk=>bgF T f k m) (λk=>nlF T (k+1) k) (T n).kids else (T n).kids.any (λk=>bgF T f k m)
theorem y3E (hw:Wf T N) (m:Nat):∀(n f g:Nat),n<N->n<f->n<g->bgF T f n m=bgF T g n m:=by
 intro n
 induction n using Nat.strongRecOn with
 |_ n ih=>
  intro f g c d e;obtain⟨f,rfl⟩:∃q,f=q+1:=⟨f-1,by omega⟩;obtain⟨g,rfl⟩:∃q,g=q+1:=⟨g-1,by omega⟩;have a:∀k∈(T n).kids,bgF T f k m=bgF T g k m:=λk a=>by
   have:=hw n c k a;exact ih k this f g (by omega) (by omega) (by omega)
  simp only[bgF];rw[q3C a,q5k (λk b=>⟨a k b,rfl⟩)]
def nlT (T:Nat->Nd) (n:Nat):Bool:=nlF T (n+1) n
def bgT (T:Nat->Nd) (n m:Nat):Bool:=bgF T (n+1) n m
def bhF (T:Nat->Nd):Nat->Nat->Option Nat->Bool
 |0,_,_=>false
 |f+1,n,q=>
  if (T n).up<0 then q==none
  else if (T (T n).up.toNat).kind=1 then (q.any (λm=>rowB (λk=>bgT T k m) (nlT T) ((T (T n).up.toNat).kids.drop ((T n).at_+1))) || (((T (T n).up.toNat).kids.drop ((T n).at_+1)).all (nlT T)&&bhF T f (T n).up.toNat q))
  else if (T (T n).up.toNat).kind=3\/(T (T n).up.toNat).kind=4 then (q.any (λm=>bgT T n m) || bhF T f (T n).up.toNat q)
  else bhF T f (T n).up.toNat q
theorem y2q (hu:Upf T N) (q:Option Nat):∀(d n f g:Nat),N-n<=d->n<N->N<f+n+1->N<g+n+1->bhF T f n q=bhF T g n q:=by
 intro d
 induction d with
 |zero=>intro n f g b h;omega
 |succ d ih=>
  intro n f g b c i j;obtain⟨f,rfl⟩:∃q,f=q+1:=⟨f-1,by omega⟩;obtain⟨g,rfl⟩:∃q,g=q+1:=⟨g-1,by omega⟩;simp only[bhF];by_cases a:(T n).up<0
  ·rw[if_pos a,if_pos a]
  rw[if_neg a,if_neg a];have k:=hu n c;have e:bhF T f (T n).up.toNat q=bhF T g (T n).up.toNat q:=ih _ f g (by omega) (by omega) (by omega) (by omega);rw[e]
def bhT (T:Nat->Nd) (N n:Nat) (q:Option Nat):Bool:=bhF T (N-n) n q
theorem q2r (hw:Wf T N) (hu:Upf T N):Eqs T N (nlT T) (bgT T) (bhT T N):=by
 have kn:∀n,n<N->∀k∈(T n).kids,nlF T n k=nlT T k:=λn a k c=>by
  have:=hw n a k c;exact y3z hw k n (k+1) (by omega) this (by omega)
 have g:∀m n,n<N->∀k∈(T n).kids,bgF T n k m=bgT T k m:=λm n a k c=>by
  have:=hw n a k c;exact y3E hw m k n (k+1) (by omega) this (by omega)
 have f:∀n u q,n<N->(T n).up=((u:Nat):Int)->n<u/\u<N/\bhT T N n q=(if (T u).kind=1 then (q.any (λm=>rowB (λk=>bgT T k m) (nlT T) ((T u).kids.drop ((T n).at_+1))) || (((T u).kids.drop ((T n).at_+1)).all (nlT T)&&bhT T N u q))
  else if (T u).kind=3\/(T u).kind=4 then (q.any (λm=>bgT T n m) || bhT T N u q) else bhT T N u q):=λn u q a i=>by
  have j:=hu n a;have b:n<u/\u<N:=by omega
  refine⟨b.1,b.2,?_⟩;have e:bhF T (N-n-1) u q=bhT T N u q:=y2q hu q N u _ _ (by omega) b.2 (by omega) (by omega);unfold bhT;rw[show N-n=(N-n-1)+1 by omega];simp only[bhF];rw[if_neg (by omega),i,Int.toNat_natCast,e];rfl
 refine⟨λn _ h=>?_,λn a h=>?_,λn a h=>?_,λn _ h=>?_,λn m _ h=>?_,λn m a h=>?_,λn m a h=>?_,λn q a h=>?_,λn u q a b d=>?_,λn u q a b d=>?_,λn u q a b d=>?_⟩
 ·simp[nlT,nlF,h]
 ·unfold nlT;rw[nlF,if_neg (by omega),if_neg (by omega),if_neg (by omega)];exact q7C (kn n a)
 ·unfold nlT;rw[nlF,if_neg (by omega),if_neg (by omega),if_pos h];exact q3C (kn n a)
 ·simp[nlT,nlF,h]
 ·simp[bgT,bgF,h]
 ·unfold bgT;rw[bgF,if_neg (by omega),if_pos h];exact q5k (λk c=>⟨g m n a k c,rfl⟩)
 ·unfold bgT;rw[bgF,if_neg (by omega),if_neg (by omega)];exact q3C (g m n a)
 ·unfold bhT;rw[show N-n=(N-n-1)+1 by omega];simp only[bhF];rw[if_pos h]
 ·obtain⟨_,_,e⟩:=f n u q a b;rw[e,if_pos d]
 ·obtain⟨_,_,e⟩:=f n u q a b;rw[e,if_neg (by omega),if_neg (by omega)]
 obtain⟨_,_,e⟩:=f n u q a b;rw[e,if_neg (by omega),if_pos d]
variable {e : Rx}
theorem y1g (hw:Wf T (k+1)) (hu:Upf T (k+1)) (g:Good T (k+1) 0 k e):
  clN T (k+1)=e.sz/\nlT T k=e.nul/\(∀m,(T m).kind=0->bgT T k m=e.fst 0 (clN T m)) /\
  (∀m q,m<=k->(T m).kind=0->(∀x,q=some x->(T x).kind=0)->bhT T (k+1) m q=(q.any (λx=>e.fol 0 (clN T m) (clN T x)) || (e.lst 0 (clN T m)&&bhT T (k+1) k q))) /\
  (∀m b,m<=k->(T m).kind=0->b<256->(T m).inn b=e.has 0 (clN T m) b):=by
 have a:=g.st T (k+1) (nlT T) (bgT T) (bhT T (k+1)) ⟨λi _=>⟨rfl,rfl,rfl⟩,λi _ _=>⟨rfl,rfl⟩⟩ (by omega) (q2r hw hu);refine⟨?_,a.e0,a.f,λm q h=>a.b m q (Nat.zero_le _) h,λm b h=>a.h m b (Nat.zero_le _) h⟩;have:=a.c;simpa[clN]using this
structure Tre (T:Nat->Nd) (N:Nat):Prop where
 w:Wf T N
 u:Upf T N
 k:∀i,i<N->(T i).kind<=4/\(T i).kids.length<=1000
 a:∀i,i<N->(T i).at_<=1000
theorem Tre.zero (T:Nat->Nd):Tre T 0:=⟨λi a=>by omega,λi a=>by omega,λi a=>by omega,λi a=>by omega⟩
theorem Tre.add (h:Tre T N) (hk:∀k∈kids,k<N) (h4:kind<=4) (hl:kids.length<=1000):Tre (addN T N kind kids inn) (N+1):=
 ⟨h.w.add hk,h.u.add,λi c=>by
  by_cases e:i=N
  ·subst e;rw[q0r];exact⟨h4,hl⟩
  ·obtain⟨a,b,_⟩:=q0X (T:=T) (kind:=kind) (kids:=kids) (inn:=inn) (show i<N by omega);rw[a,b];exact h.k i (by omega),λi c=>by
  unfold addN;by_cases e:i=N
  ·rw[if_pos e];exact Nat.zero_le _
  rw[if_neg e];split
  ·show kids.idxOf i<=1000;have:=List.idxOf_le_length (l:=kids) (a:=i);omega
  exact h.a i (by omega)⟩
variable {T' : Nat → Nd}
theorem Chain.more {es:List Rx} (hw:Wf T N) (c:Chain T N lo ks es N) (he:∀i,i<N->T' i=T i) (g:Fine T' (n+1) N n e):Chain T' (n+1) lo (ks++[n]) (es++[e]) (n+1):=
 Chain.snoc (c.ext hw (λi a=>by rw[he i a];exact⟨rfl,rfl,rfl⟩) (λi _ a _=>by rw[he i a];exact⟨rfl,rfl⟩) (by have:=g.ge;omega)) g.toGood
theorem q5x {es:List Rx} (hk:∀k∈ks,k<N) (hl:ks.length=es.length) (h:Chain.FineL T ks es) (he:∀i,i<N->T' i=T i) (g:Fine T' (n+1) N n e):Chain.FineL T' (ks++[n]) (es++[e]):=λj k x a b c d=>by
 by_cases m:j<ks.length
 ·rw[List.getElem?_append_left m]at a;rw[List.getElem?_append_left (by omega)]at b;rw[he k (hk k (List.mem_of_getElem? a))]at c d;exact h j k x a b c d
 have l:=(List.getElem?_eq_some_iff.1 a).1;simp only[List.length_append,List.length_singleton]at l;have f:j=ks.length:=by omega
 subst f;rw[List.getElem?_append_right (by omega),Nat.sub_self]at a;rw[hl,List.getElem?_append_right (by omega),Nat.sub_self]at b;simp only[List.getElem?_cons_zero,Option.some.injEq]at a b;subst a;subst b;exact g.br c d
theorem q8V (T:Nat->Nd) (N:Nat) (hw:Wf T N):Fine (addN T N 1 [] (λ_=>false)) (N+1) N N .eps:=q5V hw (Chain.nil N)
variable {e0 : Rx}
theorem y1w {a:Nat} (ht:Wf T (a+1)) (g:Fine T (a+1) lo a e0):Fine (addN (addN T (a+1) 1 [] (λ_=>false)) (a+1+1) 2 [a,a+1] (λ_=>false)) (a+1+1+1) lo (a+1+1) (.opt e0):=by
 have d:Wf (addN T (a+1) 1 [] (λ_=>false)) (a+1+1):=ht.add (by simp);have c:=Chain.snoc (Chain.nil lo) g.toGood;have e:=q8V T (a+1) ht;have h:∀i,i<a+1->addN T (a+1) 1 [] (λ_=>false) i=T i:=λi p=>q1g p (by simp)
 have c2:=c.more ht h e;have l:Chain.FineL T [a] [e0]:=λj k x b f n o=>by
  rcases j with _|j
  ·simp only[List.getElem?_cons_zero,Option.some.injEq]at b f;subst b;subst f;exact g.br n o
  simp at b
 have m:Chain.FineL (addN T (a+1) 1 [] (λ_=>false)) [a,a+1] [e0,.eps]:=q5x (N:=a+1) (by simp) rfl l h e;exact(q4T d c2 m (by simp)).eq (SemEq.opt_alt e0)
def ndB (L P:Nat):Nat:=3*(L*max P 1)
theorem q8a {L:Nat} (h:1<=L):3<=ndB L P:=by
 unfold ndB;have a:1<=max P 1:=by omega
 have:1*1<=L*max P 1:=Nat.mul_le_mul h a;omega
theorem q6j {L t:Nat} (h:1<=t):ndB L P+2<=ndB (L+t) P:=by
 unfold ndB;have a:1<=max P 1:=by omega
 have b:=Nat.mul_le_mul h a;rw[Nat.add_mul];omega
theorem y1B {L Q:Nat} (h:P<=Q):ndB L P<=ndB L Q:=by
 unfold ndB;have:L*max P 1<=L*max Q 1:=Nat.mul_le_mul_left _ (by omega);omega
theorem q4F (L K P:Nat):ndB (L+K) P=ndB L P+ndB K P:=by
 unfold ndB;rw[Nat.add_mul];omega
theorem y0r {L t:Nat} (ht:3<=t) (hp:1<=P) (hn:1<=n):n*(ndB L P+2)+1<=ndB (L+t) (n*P):=by
 unfold ndB;have c:=Nat.mul_le_mul hn hp;have a:max P 1=P:=by omega
 have e2:max (n*P) 1=n*P:=by omega
 rw[a,e2];have d:=Nat.mul_le_mul_left n hp;have e:3*(n*P)<=t*(n*P):=Nat.mul_le_mul_right _ ht;have b:n*(3*(L*P)+2)=3*(L*(n*P))+2*n:=by
  rw[Nat.mul_add];have:n*(3*(L*P))=3*(L*(n*P)):=by
   rw[Nat.mul_left_comm n 3,Nat.mul_left_comm n L]
  omega
 rw[b,Nat.add_mul];omega
theorem y3l {l:List Rx} (h:e∈l):e.sz<=(l.map Rx.sz).sum:=by
 induction l with
 |nil=>simp at h
 |cons x l ih=>
  simp only[List.map_cons,List.sum_cons];rcases List.mem_cons.1 h with rfl|h
  ·omega
  have:=ih h;omega
open Go.RowKit
def bat (s:ByteArray) (i:Int):Int:=if 0<=i/\i<s.size then ((s.data.toList.getD i.toNat 0).toNat:Int) else -1
theorem y0W {s:ByteArray}{i:Int} (h:¬(0<=i/\i<s.size)):bat s i=-1:=by unfold bat;rw[if_neg h]
theorem q8v {s:ByteArray}{i:Int} (h:i.toNat<s.size) (h0:0<=i):bat s i=(s[i.toNat].toNat:Int):=by
 unfold bat;rw[if_pos ⟨h0,by omega⟩,q6v s _ h]
theorem q7B (s:ByteArray) (i:Int):-1<=bat s i/\bat s i<256:=by
 unfold bat;split
 ·have:=(s.data.toList.getD i.toNat 0).toNat_lt;omega
 omega
namespace Pg
structure R where
 v:Int
 n:Int
 ok:Bool
def isMark (b:Int):Bool:=b==92 || b==46 || b==91 || b==93 || b==40 || b==41 || b==123 || b==125 || b==124 || b==42 || b==43 || b==63 || b==94 || b==45
def isInner (b:Int):Bool:=!(b==-1 || b==92 || b==91 || b==93 || b==94 || b==45)
def digitValue (b:Int):Int:=if 48<=b/\b<=57 then b-48 else -1
def hexValue (b:Int):Int:=if 97<=b/\b<=102 then b-97+10 else digitValue b
def kindOf (b:Int):Int:=
 if b=-1\/b=93\/b=125 then 0 else if b=40 then 2 else if b=41 then 3 else if b=124 then 4
 else if b=42 then 5 else if b=43 then 6 else if b=63 then 7 else if b=123 then 8 else 1
def isSuffix (k:Int):Bool:=k==5 || k==6 || k==7 || k==8
def opn (kd:Int):Int:=if kd=2 then 1 else if kd=3 then -1 else 0
theorem opn_bd (kd:Int):-1<=opn kd/\opn kd<=1:=by
 unfold opn
 repeat' split
 all_goals omega
def endsPiece (k:Int):Bool:=k==1 || k==3 || isSuffix k
def canStand (k before op:Int):Bool:=if k=0 then false else if k=3 then decide (0<op) else if isSuffix k then endsPiece before else true
def capped (n:Int):Int:=if 96<n then 97 else n
def readHex (g:Int->Int) (i:Int):R:=
 if hexValue (g i)<0 then ⟨0,i,false⟩
 else if hexValue (g (i+1))<0 then ⟨0,i+1,false⟩
 else ⟨hexValue (g i)*16+hexValue (g (i+1)),i+2,true⟩
def readEscape (g:Int->Int) (i:Int):R:=
 if g (i+1)=110 then ⟨10,i+2,true⟩ else if g (i+1)=116 then ⟨9,i+2,true⟩
 else if g (i+1)=120 then readHex g (i+2)
 else if isMark (g (i+1)) then ⟨g (i+1),i+2,true⟩ else ⟨0,i+1,false⟩
def readOne (g:Int->Int) (i:Int):R:=
 if g i=92 then readEscape g i else if isInner (g i) then ⟨g i,i+1,true⟩ else ⟨0,i,false⟩
structure I where
 lo:Int
 hi:Int
 n:Int
 ok:Bool
def readItem (g:Int->Int) (i:Int):I:=
 if (readOne g i).ok then
  (if g (readOne g i).n=45 then ⟨(readOne g i).v,(readOne g ((readOne g i).n+1)).v,(readOne g ((readOne g i).n+1)).n,(readOne g ((readOne g i).n+1)).ok⟩
  else ⟨(readOne g i).v,(readOne g i).v,(readOne g i).n,true⟩)
 else ⟨0,0,(readOne g i).n,false⟩
def readMost (g:Int->Int) (i least:Int):R:=
 if g i=125 then ⟨least,i+1,true⟩
 else if g i=44 then
  (if digitValue (g (i+1))<0 then ⟨0,i+1,false⟩
  else if g (i+2)=125 then ⟨digitValue (g (i+1)),i+3,true⟩ else ⟨0,i+2,false⟩)
 else ⟨0,i,false⟩
theorem hexValue_bd (b:Int):-1<=hexValue b/\hexValue b<16:=by
 unfold hexValue digitValue;split
 ·omega
 split<;>omega
theorem digitValue_bd (b:Int):-1<=digitValue b/\digitValue b<10:=by
 unfold digitValue;split<;>omega
theorem readHex_bd (g:Int->Int) (i:Int):0<=(readHex g i).v/\(readHex g i).v<256/\i<=(readHex g i).n/\(readHex g i).n<=i+2:=by
 have a:=hexValue_bd (g i);have b:=hexValue_bd (g (i+1));unfold readHex;split
 ·simp;omega
 split
 ·simp;omega
 simp;omega
theorem readEscape_bd (g:Int->Int) (i:Int) (hg:∀j,-1<=g j/\g j<256):0<=(readEscape g i).v/\(readEscape g i).v<256/\i<(readEscape g i).n/\(readEscape g i).n<=i+4:=by
 have h:=hg (i+1);have b:=readHex_bd g (i+2);unfold readEscape;split
 ·simp;omega
 split
 ·simp;omega
 split
 ·omega
 split
 ·rename_i a;have:0<=g (i+1):=by
   simp only[isMark,Bool.or_eq_true,beq_iff_eq]at a;omega
  simp;omega
 simp;omega
theorem readOne_bd (g:Int->Int) (i:Int) (hg:∀j,-1<=g j/\g j<256):0<=(readOne g i).v/\(readOne g i).v<256/\i<=(readOne g i).n/\(readOne g i).n<=i+4/\((readOne g i).ok=true->i<(readOne g i).n):=by
 have h:=hg i;have b:=readEscape_bd g i hg;unfold readOne;split
 ·omega
 split
 ·rename_i a;have:g i≠-1:=by
   intro e;rw[e]at a;simp[isInner]at a
  simp;omega
 simp;omega
theorem readItem_bd (g:Int->Int) (i:Int) (hg:∀j,-1<=g j/\g j<256):i<=(readItem g i).n/\(readItem g i).n<=i+9/\((readItem g i).ok=true->i<(readItem g i).n/\0<=(readItem g i).lo/\(readItem g i).lo<256/\0<=(readItem g i).hi/\(readItem g i).hi<256):=by
 have h:=readOne_bd g i hg;have b:=readOne_bd g ((readOne g i).n+1) hg;unfold readItem;split
 ·rename_i a;have c:=h.2.2.2.2 a;split
  ·simp;omega
  simp;omega
 simp;omega
structure S where
 n:Int
 ok:Bool
 f:Nat->Bool
 fa:Int
def withF (f:Nat->Bool) (a b:Int):Nat->Bool:=λk=>f k || (decide (a<=(k:Int))&&decide ((k:Int)<=b))
def setLoop (g:Int->Int) (len first:Int):Nat->Int->Int->(Nat->Bool)->S
 |0,e,fa,f=>⟨e,false,f,fa⟩
 |u+1,e,fa,f=>
  if e<len then
   (if g e=93/\first<e then ⟨e+1,true,f,fa⟩
   else if (readItem g e).ok then setLoop g len first u (readItem g e).n (if (readItem g e).hi<(readItem g e).lo/\fa=-1 then e else fa) (withF f (readItem g e).lo (readItem g e).hi)
   else ⟨(readItem g e).n,false,f,fa⟩)
  else ⟨len,false,f,fa⟩
def readSet (g:Int->Int) (len i:Int):S:=
 if g (i+1)=94 then (let r:=setLoop g len (i+2) (len.toNat+1) (i+2) (-1) (λ_=>false);⟨r.n,r.ok,λk=>!r.f k,r.fa⟩)
 else setLoop g len (i+1) (len.toNat+1) (i+1) (-1) (λ_=>false)
end Pg
end Go.Proofs.YtoaaklhpmhjhkaaGreat
namespace Go.Proofs.YtoaaklhpmhjhkaaGreat
open Go.RowKit
namespace Pg
def readCount (g:Int->Int) (i:Int):R:=if digitValue (g (i+1))<0 then ⟨0,i+1,false⟩ else readMost g (i+2) (digitValue (g (i+1)))
def countFalls (g:Int->Int) (i:Int):Int:=if (readCount g i).v<digitValue (g (i+1)) then i else -1
def readPlace (g:Int->Int) (len i:Int):S:=
 if g i=91 then readSet g len i
 else if g i=46 then ⟨i+1,true,λk=>!(withF (λ_=>false) 10 10 k),-1⟩
 else if g i=92 then ⟨(readEscape g i).n,(readEscape g i).ok,withF (λ_=>false) (readEscape g i).v (readEscape g i).v,-1⟩
 else ⟨i+1,true,withF (λ_=>false) (g i) (g i),-1⟩
structure T where
 n:Int
 ok:Bool
 f:Nat->Bool
 mo:Int
 fa:Int
def readPart (g:Int->Int) (len i kind:Int):T:=
 if kind=1 then ⟨(readPlace g len i).n,(readPlace g len i).ok,(readPlace g len i).f,0,(readPlace g len i).fa⟩
 else if kind=8 then ⟨(readCount g i).n,(readCount g i).ok,λ_=>false,(readCount g i).v,countFalls g i⟩
 else ⟨i+1,true,λ_=>false,0,-1⟩
structure Pt where
 kd:Int
 pl:Int
 f:Nat->Bool
 le:Int
 mo:Int
 fa:Int
def Pt.strip (p:Pt):Pt:={ p with le:=0 }
structure PR where
 n:Int
 ok:Bool
 ps:List Pt
def opens (kd op:Int):Int:=if kd=2 then op+1 else if kd=3 then op-1 else op
theorem opens_opn (kd op:Int):opens kd op=op+opn kd:=by
 unfold opens opn;repeat' split
 all_goals omega
def partsFrom (g:Int->Int) (len:Int):Nat->Int->Int->Int->List Pt->PR
 |0,_,_,i,_=>⟨i,false,[]⟩
 |u+1,before,op,i,acc=>
  if i<len then
   (if canStand (kindOf (g i)) before op then
    (if (readPart g len i (kindOf (g i))).ok then partsFrom g len u (kindOf (g i)) (opens (kindOf (g i)) op) (readPart g len i (kindOf (g i))).n (acc++[⟨kindOf (g i),i,(readPart g len i (kindOf (g i))).f,0,(readPart g len i (kindOf (g i))).mo,(readPart g len i (kindOf (g i))).fa⟩])
    else ⟨(readPart g len i (kindOf (g i))).n,false,[]⟩)
   else ⟨i,false,[]⟩)
  else ⟨i,op==0,acc⟩
def readParts (g:Int->Int) (len:Int):PR:=partsFrom g len (len.toNat+1) 0 0 0 []
theorem setLoop_bd (g:Int->Int) (len first:Int) (hg:∀j,-1<=g j/\g j<256):∀(u:Nat) (e fa:Int) (f:Nat->Bool),(setLoop g len first u e fa f).ok=true->e<(setLoop g len first u e fa f).n/\(setLoop g len first u e fa f).n<=len:=by
 intro u
 induction u with
 |zero=>intro e fa f h;simp[setLoop]at h
 |succ u ih=>
  intro e fa f h;have d:=readItem_bd g e hg;unfold setLoop at h ⊢;split
  ·rename_i b;rw[if_pos b]at h;split
   ·simp;omega
   rename_i c;rw[if_neg c]at h;split
   ·rename_i a;rw[if_pos a]at h;have:=ih _ _ _ h;have:=d.2.2 a;omega
   rename_i a;rw[if_neg a]at h;simp at h
  rename_i b;rw[if_neg b]at h;simp at h
theorem readSet_bd (g:Int->Int) (len i:Int) (hg:∀j,-1<=g j/\g j<256) (h:(readSet g len i).ok=true):i<(readSet g len i).n/\(readSet g len i).n<=len:=by
 unfold readSet at h ⊢;split
 ·rename_i a;rw[if_pos a]at h;have:=setLoop_bd g len (i+2) hg _ _ _ _ h;simp only;omega
 rename_i a;rw[if_neg a]at h;have:=setLoop_bd g len (i+1) hg _ _ _ _ h;omega
theorem readPart_bd (g:Int->Int) (len i kd:Int) (hg:∀j,-1<=g j/\g j<256) (hl:len<=40) (h:(readPart g len i kd).ok=true):i<(readPart g len i kd).n/\(readPart g len i kd).n<=i+5+40\/(readPart g len i kd).n<=40/\i<(readPart g len i kd).n:=by
 have c:=readEscape_bd g i hg;unfold readPart at h ⊢;split
 ·rename_i b;rw[if_pos b]at h;simp only at h ⊢;unfold readPlace at h ⊢;split
  ·rename_i a;rw[if_pos a]at h;have:=readSet_bd g len i hg h;omega
  rename_i a;rw[if_neg a]at h;split
  ·simp;omega
  split
  ·simp;omega
  simp;omega
 split
 ·simp only;unfold readCount readMost
  repeat' split
  all_goals (simp;omega)
 simp;omega
/-! What looks over the parts. -/
def tooDeep:List Pt->Int->Int
 |[],_=>-1
 |p::r,op=>if 6<opens p.kd op then p.pl else tooDeep r (opens p.kd op)
def falling:List Pt->Int
 |[]=>-1
 |p::r=>if p.fa=-1 then falling r else p.fa
def matchless:List Pt->Int
 |[]=>-1
 |p::r=>if p.kd=1/\Rf.cntTo p.f 256=0 then p.pl else matchless r
structure C where
 ah:Int
 la:Int
 st:List Int
def cStep (c:C) (p:Pt):C:=
 if p.kd=1 then ⟨capped (c.ah+c.la),1,c.st⟩
 else if p.kd=2 then ⟨0,0,capped (c.ah+c.la)::c.st⟩
 else if p.kd=3 then
  (match c.st with
  |[]=>⟨0,capped (c.ah+c.la),[]⟩
  |x::r=>⟨x,capped (c.ah+c.la),r⟩)
 else if p.kd=4 then ⟨capped (c.ah+c.la),0,c.st⟩
 else if p.kd=8 then ⟨c.ah,capped (c.la*p.mo),c.st⟩
 else c
def cRun:List Pt->C->C
 |[],c=>c
 |p::r,c=>cRun r (cStep c p)
def countPlaces (ps:List Pt):Int:=capped ((cRun ps ⟨0,0,[]⟩).ah+(cRun ps ⟨0,0,[]⟩).la)
theorem tooDeep_strip (ps:List Pt):∀op,tooDeep (ps.map Pt.strip) op=tooDeep ps op:=by
 induction ps with
 |nil=>intro op;rfl
 |cons p r ih=>intro op;simp only[List.map_cons,tooDeep,Pt.strip];rw[ih]
theorem falling_strip (ps:List Pt):falling (ps.map Pt.strip)=falling ps:=by
 induction ps with
 |nil=>rfl
 |cons p r ih=>simp only[List.map_cons,falling,Pt.strip];rw[ih]
theorem matchless_strip (ps:List Pt):matchless (ps.map Pt.strip)=matchless ps:=by
 induction ps with
 |nil=>rfl
 |cons p r ih=>simp only[List.map_cons,matchless,Pt.strip];rw[ih]
theorem cRun_strip (ps:List Pt):∀c,cRun (ps.map Pt.strip) c=cRun ps c:=by
 induction ps with
 |nil=>intro c;rfl
 |cons p r ih=>intro c;simp only[List.map_cons,cRun];rw[ih];rfl
theorem countPlaces_strip (ps:List Pt):countPlaces (ps.map Pt.strip)=countPlaces ps:=by unfold countPlaces;rw[cRun_strip]
def wrong (g:Int->Int) (len:Int):Int × Int:=
 if 40<len then (2,0)
 else if (readParts g len).ok then
  (if tooDeep (readParts g len).ps 0=-1 then
   (if falling (readParts g len).ps=-1 then
    (if matchless (readParts g len).ps=-1 then (0,0) else (6,matchless (readParts g len).ps))
   else (5,falling (readParts g len).ps))
  else (4,tooDeep (readParts g len).ps 0))
 else (3,(readParts g len).n)
theorem readMost_bd (g:Int->Int) (i l:Int) (h0:0<=l) (h9:l<=9):0<=(readMost g i l).v/\(readMost g i l).v<=9:=by
 have:=digitValue_bd (g (i+1));unfold readMost
 repeat' split
 all_goals (simp;try omega)
theorem readPart_mo (g:Int->Int) (len i kd:Int):0<=(readPart g len i kd).mo/\(readPart g len i kd).mo<=9:=by
 unfold readPart;split
 ·simp
 split
 ·simp only;unfold readCount;have:=digitValue_bd (g (i+1));split
  ·simp
  exact readMost_bd _ _ _ (by omega) (by omega)
 simp
theorem partsFrom_mo (g:Int->Int) (len:Int):∀(u:Nat) (b op i:Int) (acc:List Pt),(∀p∈acc,0<=p.mo/\p.mo<=9)->∀p∈(partsFrom g len u b op i acc).ps,0<=p.mo/\p.mo<=9:=by
 intro u
 induction u with
 |zero=>intro b op i acc _ p a;simp[partsFrom]at a
 |succ u ih=>
  intro b op i acc c p a;unfold partsFrom at a;split at a
  ·split at a
   ·split at a
    ·refine ih _ _ _ _ ?_ p a;intro q d;rcases List.mem_append.1 d with h|h
     ·exact c q h
     simp only[List.mem_singleton]at h;subst h;exact readPart_mo _ _ _ _
    simp at a
   simp at a
  exact c p a
theorem readParts_mo (g:Int->Int) (len:Int):∀p∈(readParts g len).ps,0<=p.mo/\p.mo<=9:=partsFrom_mo g len _ _ _ _ _ (by simp)
theorem capped_le (n:Int) (h:0<=n):0<=capped n/\capped n<=97:=by unfold capped;split<;>omega
end Pg
def at_ (t:List UInt8) (j:Nat):Int:=match t[j]? with|some c=>(c.toNat:Int)|none=>-1
theorem q2j (s:ByteArray) (k j:Nat):bat s ((k:Int)+(j:Int))=at_ (s.data.toList.drop k) j:=by
 unfold at_ bat;rw[List.getElem?_drop];by_cases h:k+j<s.size
 ·rw[if_pos ⟨by omega,by omega⟩,show((k:Int)+(j:Int)).toNat=k+j by omega,List.getElem?_eq_getElem (by simpa using h),List.getD_eq_getElem?_getD,List.getElem?_eq_getElem (by simpa using h)];rfl
 rw[if_neg (by omega),List.getElem?_eq_none (by simp;omega)]
variable {r : List UInt8}{i k : Nat}{c : UInt8}
theorem q4W {s:ByteArray}{t:List UInt8} (h:s.data.toList.drop k=t):bat s (k:Int)=at_ t 0:=by
 have:=q2j s k 0;rw[h]at this;simpa using this
theorem y0X {s:ByteArray}{t:List UInt8} (h:s.data.toList.drop k=t):bat s ((k:Int)+1)=at_ t 1:=by
 have:=q2j s k 1;rw[h]at this;simpa using this
theorem y3G {s:ByteArray}{t:List UInt8} (h:s.data.toList.drop k=t):bat s ((k:Int)+2)=at_ t 2:=by
 have:=q2j s k 2;rw[h]at this;simpa using this
theorem y3F {s:ByteArray}{t:List UInt8} (h:s.data.toList.drop k=t):bat s ((k:Int)+3)=at_ t 3:=by
 have:=q2j s k 3;rw[h]at this;simpa using this
theorem y3M {s:ByteArray}{t:List UInt8} (h:s.data.toList.drop k=t):bat s ((k:Int)+4)=at_ t 4:=by
 have:=q2j s k 4;rw[h]at this;simpa using this
theorem q6s (c:Int):Rf.hex c=decide (0<=Pg.hexValue c):=by
 unfold Rf.hex Rf.digit Pg.hexValue Pg.digitValue;rw[Bool.eq_iff_iff];simp only[Bool.or_eq_true,Bool.and_eq_true,decide_eq_true_eq];split
 ·constructor<;>intro<;>omega
 split
 ·constructor<;>intro<;>omega
 constructor<;>intro<;>omega
theorem q3x (c:Int):Rf.digit c=decide (0<=Pg.digitValue c):=by
 unfold Rf.digit Pg.digitValue;rw[Bool.eq_iff_iff];simp only[Bool.and_eq_true,decide_eq_true_eq];split<;>(constructor<;>intro<;>omega)
theorem q7j (c:Int) (h:Rf.hex c=true):Rf.number c=Pg.hexValue c:=by
 unfold Rf.hex Rf.digit at h;simp only[Bool.or_eq_true,Bool.and_eq_true,decide_eq_true_eq]at h;unfold Rf.number Rf.digit Pg.hexValue Pg.digitValue;by_cases a:97<=c/\c<=102
 ·rw[if_pos a,if_neg (by simp;omega)]
 rw[if_neg a,if_pos (by simp;omega),if_pos (by omega)]
theorem q7m (c:Int):Rf.has Rf.marks c=Pg.isMark c:=by
 simp only[Rf.marks,Rf.has,Pg.isMark,Bool.or_false];rw[Bool.eq_iff_iff];simp only[Bool.or_eq_true,beq_iff_eq];constructor<;>intro h<;>(simp at h ⊢;omega)
theorem q7k (c:Int) (h0:0<=c) (h92:c≠92):(!Rf.has Rf.notInner c)=Pg.isInner c:=by
 simp only[Rf.notInner,Rf.has,Pg.isInner,Bool.or_false];congr 1;rw[Bool.eq_iff_iff];simp only[Bool.or_eq_true,beq_iff_eq];constructor<;>intro h<;>(simp at h ⊢;omega)
theorem q3t (m b o:Int) (i:Nat) (h:1<m):Rf.formFrom m b o i []=i:=by simp[Rf.formFrom,h]
theorem q1F {m b o:Int} (x:Rf.RS) (h:Rf.read m b o c.toNat=x) (hx:x.ok=true):Rf.formFrom m b o i (c::r)=Rf.formFrom x.m x.bk x.o (i+1) r:=by
 simp[Rf.formFrom,h,hx]
theorem q3O {m b o:Int} (x:Rf.RS) (h:Rf.read m b o c.toNat=x) (hx:x.ok=false):Rf.formFrom m b o i (c::r)=i:=by
 simp[Rf.formFrom,h,hx]
theorem q4x (b o:Int):Rf.read 2 b o 120=⟨true,3,b,o⟩:=by simp[Rf.read]
theorem y3s (b o c:Int) (h:c≠120) (hk:(c==110 || c==116 || Rf.has Rf.marks c)=true):Rf.read 2 b o c=⟨true,b,b,o⟩:=by
 simp only[Rf.read,if_neg h,hk];rfl
theorem y2B (b o c:Int) (h:c≠120) (hk:(c==110 || c==116 || Rf.has Rf.marks c)=false):Rf.read 2 b o c=⟨false,2,b,o⟩:=by
 simp only[Rf.read,if_neg h,hk];rfl
theorem q8D (b o c:Int):Rf.read 3 b o c=⟨Rf.hex c,if Rf.hex c then 4 else 3,b,o⟩:=by simp[Rf.read,Rf.to]
theorem y2k (b o c:Int):Rf.read 4 b o c=⟨Rf.hex c,if Rf.hex c then b else 4,b,o⟩:=by simp[Rf.read,Rf.to]
def steps (m b o:Int):List UInt8->Option (Int × Int)
 |[]=>some (m,b)
 |c::r=>if (Rf.read m b o c.toNat).ok=true/\(Rf.read m b o c.toNat).o=o then steps (Rf.read m b o c.toNat).m (Rf.read m b o c.toNat).bk o r else none
theorem q0z {m b o:Int} (x:Rf.RS) (h:Rf.read m b o c.toNat=x) (hx:x.ok=true) (ho:x.o=o):steps m b o (c::r)=steps x.m x.bk o r:=by
 rw[steps,h,if_pos ⟨hx,ho⟩]
theorem q2E {o:Int}:∀(w:List UInt8) (m b m' b':Int) (i:Nat) (r:List UInt8),steps m b o w=some (m',b')->Rf.formFrom m b o i (w++r)=Rf.formFrom m' b' o (i+w.length) r
 |[],m,b,m',b',i,r,h=>by simp only[steps,Option.some.injEq,Prod.mk.injEq]at h;rw[h.1,h.2];rfl
 |c::w,m,b,m',b',i,r,h=>by
  rw[steps]at h;split at h
  ·rename_i a;rw[List.cons_append,q1F _ rfl a.1,a.2,q2E w _ _ _ _ _ _ h];congr 1;simp;omega
  cases h
theorem q5f {o:Int} (ho:o<=6):∀(w:List UInt8) (m b m' b':Int) (i:Nat) (r:List UInt8),steps m b o w=some (m',b')->Rf.deepFrom m b o i (w++r)=Rf.deepFrom m' b' o (i+w.length) r
 |[],m,b,m',b',i,r,h=>by simp only[steps,Option.some.injEq,Prod.mk.injEq]at h;rw[h.1,h.2];rfl
 |c::w,m,b,m',b',i,r,h=>by
  rw[steps]at h;split at h
  ·rename_i a;rw[List.cons_append,Rf.deepFrom,a.2,if_neg (by omega),q5f ho w _ _ _ _ _ _ h];congr 1;simp;omega
  cases h
theorem q2t {o:Int}:∀(w:List UInt8) (m b m' b':Int) (r:List UInt8),steps m b o w=some (m',b')->steps m b o (w++r)=steps m' b' o r
 |[],m,b,m',b',r,h=>by simp only[steps,Option.some.injEq,Prod.mk.injEq]at h;rw[h.1,h.2];rfl
 |c::w,m,b,m',b',r,h=>by
  rw[steps]at h;split at h
  ·rename_i a;rw[List.cons_append,steps,if_pos a];exact q2t w _ _ _ _ _ h
  cases h
theorem q3v (s:ByteArray) (k:Nat) (t:List UInt8) (h:s.data.toList.drop k=92::t):
  (∃(n:Nat) (v:Int),Pg.readEscape (bat s) k=⟨v,((k+(n+1):Nat):Int),true⟩/\Rf.one (92::t)=some (v,n+1)/\n<=t.length/\∀b o,steps 2 b o (t.take n)=some (b,b)) \/
  (∃n:Nat,(Pg.readEscape (bat s) k).ok=false/\(Pg.readEscape (bat s) k).n=((k+n:Nat):Int)/\∀b o,Rf.formFrom 2 b o (k+1) t=((k+n:Nat):Int)):=by
 have D:=y0X h;have e2:=y3G h;have E:=y3F h;have l:(k:Int)+2+1=(k:Int)+3:=by omega
 rcases t with _|⟨d,t⟩
 ·right;refine⟨1,?_,?_,λb o=>?_⟩
  ·simp[Pg.readEscape,D,at_,Pg.isMark]
  ·simp[Pg.readEscape,D,at_,Pg.isMark]
  rw[q3t _ _ _ _ (by omega)]
 have i:bat s ((k:Int)+1)=d.toNat:=by rw[D];rfl
 by_cases u:d=120
 ·subst u;have z:Pg.readEscape (bat s) k=Pg.readHex (bat s) ((k:Int)+2):=by
   unfold Pg.readEscape;rw[i];rfl
  rcases t with _|⟨x,t⟩
  ·right;have w:Pg.hexValue (bat s ((k:Int)+2))<0:=by rw[e2];simp[at_,Pg.hexValue,Pg.digitValue]
   refine⟨2,?_,?_,λb o=>?_⟩
   ·rw[z,Pg.readHex,if_pos w]
   ·rw[z,Pg.readHex,if_pos w];simp
   rw[q1F _ (q4x b o) rfl,q3t _ _ _ _ (by simp)]
  have g:bat s ((k:Int)+2)=x.toNat:=by rw[e2];rfl
  by_cases w:Pg.hexValue x.toNat<0
  ·right;have c:Rf.hex x.toNat=false:=by rw[q6s];simp;omega
   refine⟨2,?_,?_,λb o=>?_⟩
   ·rw[z,Pg.readHex,g,if_pos w]
   ·rw[z,Pg.readHex,g,if_pos w];simp
   rw[q1F _ (q4x b o) rfl,q3O _ (q8D b o _) c]
  have c:Rf.hex x.toNat=true:=by rw[q6s];simp;omega
  rcases t with _|⟨y,t⟩
  ·right;have C:Pg.hexValue (bat s ((k:Int)+3))<0:=by rw[E];simp[at_,Pg.hexValue,Pg.digitValue]
   refine⟨3,?_,?_,λb o=>?_⟩
   ·rw[z,Pg.readHex,g,if_neg w,l,if_pos C]
   ·rw[z,Pg.readHex,g,if_neg w,l,if_pos C];simp
   rw[q1F _ (q4x b o) rfl,q1F _ (q8D b o _) c];simp only[c,if_true];rw[q3t _ _ _ _ (by simp)]
  have A:bat s ((k:Int)+3)=y.toNat:=by rw[E];rfl
  by_cases C:Pg.hexValue y.toNat<0
  ·right;have j:Rf.hex y.toNat=false:=by rw[q6s];simp;omega
   refine⟨3,?_,?_,λb o=>?_⟩
   ·rw[z,Pg.readHex,g,if_neg w,l,A,if_pos C]
   ·rw[z,Pg.readHex,g,if_neg w,l,A,if_pos C];simp
   rw[q1F _ (q4x b o) rfl,q1F _ (q8D b o _) c];simp only[c,if_true];rw[q3O _ (y2k b o _) j]
  left;have j:Rf.hex y.toNat=true:=by rw[q6s];simp;omega
  refine⟨3,Pg.hexValue x.toNat*16+Pg.hexValue y.toNat,?_,?_,by simp,λb o=>?_⟩
  ·rw[z,Pg.readHex,g,if_neg w,l,A,if_neg C];rw[show(k:Int)+2+2=((k+(3+1):Nat):Int) by omega]
  ·simp[Rf.one,c,j,q7j _ c,q7j _ j]
  show steps 2 b o [120,x,y]=_;have G:Rf.read 2 b o ((120:UInt8).toNat:Int)=⟨true,3,b,o⟩:=q4x b o;rw[q0z _ G rfl rfl,q0z _ (q8D b o _) c rfl];simp only[c,if_true];rw[q0z _ (y2k b o _) j rfl];simp only[j,if_true];rfl
 have a:(d.toNat:Int)≠120:=by
  intro e;exact u (UInt8.toNat_inj.1 (by simpa using (by omega:d.toNat=120)))
 cases hk:((d.toNat:Int)==110 || (d.toNat:Int)==116 || Rf.has Rf.marks d.toNat)
 ·right;have f:=hk;rw[q7m]at f;simp only[Bool.or_eq_false_iff,beq_eq_false_iff_ne]at f;refine⟨1,?_,?_,λb o=>?_⟩
  ·unfold Pg.readEscape;rw[i,if_neg f.1.1,if_neg f.1.2,if_neg a,f.2];rfl
  ·unfold Pg.readEscape;rw[i,if_neg f.1.1,if_neg f.1.2,if_neg a,f.2];simp
  rw[q3O _ (y2B b o _ a hk) rfl]
 left;have B:∀b o,steps 2 b o ((d::t).take 1)=some (b,b):=λb o=>by
  show steps 2 b o [d]=_;rw[q0z _ (y3s b o _ a hk) rfl rfl];rfl
 by_cases m:d=110
 ·subst m;exact⟨1,10,by unfold Pg.readEscape;rw[i,if_pos (by decide),show(k:Int)+2=((k+(1+1):Nat):Int) by omega],by simp[Rf.one],by simp,B⟩
 have p:(d.toNat:Int)≠110:=by
  intro e;exact m (UInt8.toNat_inj.1 (by simpa using (by omega:d.toNat=110)))
 by_cases q:d=116
 ·subst q;exact⟨1,9,by unfold Pg.readEscape;rw[i,if_neg (by decide),if_pos (by decide),show(k:Int)+2=((k+(1+1):Nat):Int) by omega],by simp[Rf.one],by simp,B⟩
 have r:(d.toNat:Int)≠116:=by
  intro e;exact q (UInt8.toNat_inj.1 (by simpa using (by omega:d.toNat=116)))
 have F:Pg.isMark d.toNat=true:=by
  rw[<-q7m];simpa[p,r]using hk
 exact⟨1,d.toNat,by unfold Pg.readEscape;rw[i,if_neg p,if_neg r,if_neg a,F,if_pos rfl,show(k:Int)+2=((k+(1+1):Nat):Int) by omega],by simp[Rf.one,m,q,u],by simp,B⟩
theorem q7h (s:ByteArray) (k:Nat):
  (∃(n:Nat) (v:Int),Pg.readOne (bat s) k=⟨v,((k+(n+1):Nat):Int),true⟩/\Rf.one (s.data.toList.drop k)=some (v,n+1)/\n+1<=(s.data.toList.drop k).length /\
   (∀c r,s.data.toList.drop k=c::r->c≠93/\c≠45/\c≠94) /\
   ∀m m' b o,(∀c r,s.data.toList.drop k=c::r->Rf.read m b o c.toNat=Rf.inner m b o c.toNat m')->∃b',steps m b o ((s.data.toList.drop k).take (n+1))=some (m',b')) \/
  (∃n:Nat,(Pg.readOne (bat s) k).ok=false/\(Pg.readOne (bat s) k).n=((k+n:Nat):Int) /\
   ∀m m' b o,1<m->(∀c r,s.data.toList.drop k=c::r->Rf.read m b o c.toNat=Rf.inner m b o c.toNat m')->Rf.formFrom m b o k (s.data.toList.drop k)=((k+n:Nat):Int)):=by
 rcases hd:s.data.toList.drop k with _|⟨c,r⟩
 ·have e0:bat s (k:Int)=-1:=q4W hd;right;refine⟨0,?_,?_,λm m' b o q _=>?_⟩
  ·simp[Pg.readOne,e0,Pg.isInner]
  ·simp[Pg.readOne,e0,Pg.isInner]
  rw[q3t _ _ _ _ q];simp
 have e0:bat s (k:Int)=c.toNat:=by rw[q4W hd];rfl
 by_cases f:c=92
 ·subst f;have l:Pg.readOne (bat s) k=Pg.readEscape (bat s) k:=by rw[Pg.readOne,if_pos (by rw[e0];rfl)]
  rcases q3v s k r hd with ⟨n,v,i,j,w,x⟩|⟨n,i,j,w⟩
  ·left;refine⟨n,v,by rw[l,i],j,by simp;omega,λh u p=>by cases p;decide,λm m' b o d=>⟨m',?_⟩⟩;have g:Rf.read m b o ((92:UInt8).toNat:Int)=⟨true,2,m',o⟩:=by rw[d 92 r rfl];rfl
   rw[List.take_succ_cons,q0z _ g rfl rfl];exact x m' o
  right;refine⟨n,by rw[l,i],by rw[l,j],λm m' b o q d=>?_⟩;have g:Rf.read m b o ((92:UInt8).toNat:Int)=⟨true,2,m',o⟩:=by rw[d 92 r rfl];rfl
  rw[q1F _ g rfl];exact w m' o
 have a:(c.toNat:Int)≠92:=by
  intro e;exact f (UInt8.toNat_inj.1 (by simpa using (by omega:c.toNat=92)))
 have t:=q7k c.toNat (by omega) a;have g:∀m m' b o,(∀h u,c::r=h::u->Rf.read m b o h.toNat=Rf.inner m b o h.toNat m')->Rf.read m b o c.toNat=Rf.to m b o (Pg.isInner c.toNat) m':=λm m' b o d=>by
  rw[d c r rfl,Rf.inner,if_neg a,t]
 cases hin:Pg.isInner c.toNat
 ·right;refine⟨0,?_,?_,λm m' b o q d=>?_⟩
  ·rw[Pg.readOne,e0,if_neg a,hin];rfl
  ·rw[Pg.readOne,e0,if_neg a,hin];simp
  rw[q3O _ (g m m' b o d) (by rw[hin];rfl)];simp
 left;refine⟨0,c.toNat,?_,by simp[Rf.one,f],by simp,?_,λm m' b o d=>⟨b,?_⟩⟩
 ·rw[Pg.readOne,e0,if_neg a,hin,if_pos rfl,show(k:Int)+1=((k+(0+1):Nat):Int) by omega]
 ·intro h u p;cases p;refine⟨?_,?_,?_⟩<;>(intro e;subst e;simp[Pg.isInner]at hin)
 show steps m b o [c]=_;rw[q0z _ (g m m' b o d) (by rw[hin];rfl) rfl,hin];rfl
end Go.Proofs.YtoaaklhpmhjhkaaGreat
