import Derived.Test.YtoaaklhpmhjhkaaGreatC10
set_option maxRecDepth 100000
set_option maxHeartbeats 4000000
set_option linter.all false
namespace Go.Proofs.YtoaaklhpmhjhkaaGreat
open Go.RowKit
theorem q7o (u i:Nat) (fa:Int) (f:Nat->Bool):Rf.items u [] i fa f=none:=by cases u<;>rfl
theorem q0n (l:List UInt8) (k n:Nat):(l.drop k).drop n=l.drop (k+n):=List.drop_drop
theorem q9C (s:ByteArray) (k:Nat) (m b o:Int) (hm:1<m) (hi:∀c r,s.data.toList.drop k=c::r->Rf.read m b o c.toNat=Rf.inner m b o c.toNat 11):
  (∃(n:Nat) (lo hi:Int),1<=n/\k+n<=s.size/\Pg.readItem (bat s) k=⟨lo,hi,((k+n:Nat):Int),true⟩ /\
   (∀u fa f,Rf.items (u+1) (s.data.toList.drop k) k fa f=Rf.items u (s.data.toList.drop (k+n)) (k+n) (if hi<lo/\fa<0 then (k:Int) else fa) (Pg.withF f lo hi)) /\
   ∃m2 b2,steps m b o ((s.data.toList.drop k).take n)=some (m2,b2)/\((m2=11/\∀c r,s.data.toList.drop (k+n)=c::r->c≠45)\/m2=13)) \/
  (∃n:Nat,(Pg.readItem (bat s) k).ok=false/\(Pg.readItem (bat s) k).n=((k+n:Nat):Int)/\Rf.formFrom m b o k (s.data.toList.drop k)=((k+n:Nat):Int)):=by
 rcases q7h s k with ⟨n,v,y,D,E,K,L⟩|⟨n,y,D,E⟩
 ·obtain⟨q,x⟩:=L m 11 b o hi;have F:k+(n+1)<=s.size:=by
   have:(s.data.toList.drop k).length=s.size-k:=by simp
   omega
  obtain⟨c,r,d⟩:∃c r,s.data.toList.drop k=c::r:=by
   rcases hd:s.data.toList.drop k with _|⟨c,r⟩
   ·rw[hd]at E;simp at E
   exact⟨c,r,rfl⟩
  obtain⟨l,_,_⟩:=K c r d;have i:s.data.toList.drop k=(s.data.toList.drop k).take (n+1)++s.data.toList.drop (k+(n+1)):=by
   rw[<-q0n,List.take_append_drop]
  have B:((s.data.toList.drop k).take (n+1)).length=n+1:=by rw[List.length_take];omega
  have p:(Pg.readOne (bat s) k).ok=true:=by rw[y]
  have H:(Pg.readOne (bat s) k).n=((k+(n+1):Nat):Int):=by rw[y]
  have I:(Pg.readOne (bat s) k).v=v:=by rw[y]
  by_cases h:∃j,s.data.toList.drop (k+(n+1))=45::j
  ·obtain⟨j,g⟩:=h;have a:bat s ((k+(n+1):Nat):Int)=45:=by rw[q4W g];rfl
   have t:s.data.toList.drop (k+(n+1)+1)=j:=by rw[<-q0n,g];rfl
   have z:Rf.read 11 q o ((45:UInt8).toNat:Int)=⟨true,12,q,o⟩:=by rfl
   have A:∀c r,s.data.toList.drop (k+(n+1)+1)=c::r->Rf.read 12 q o c.toNat=Rf.inner 12 q o c.toNat 13:=by
    intro c r _;simp[Rf.read,Rf.rest]
   have w:Pg.readItem (bat s) k=⟨v,(Pg.readOne (bat s) (((k+(n+1)+1:Nat)):Int)).v,(Pg.readOne (bat s) (((k+(n+1)+1:Nat)):Int)).n,(Pg.readOne (bat s) (((k+(n+1)+1:Nat)):Int)).ok⟩:=by
    rw[Pg.readItem,if_pos p,H,if_pos a,I];rw[show(((k+(n+1):Nat):Int)+1)=((k+(n+1)+1:Nat):Int) by omega]
   rcases q7h s (k+(n+1)+1)with ⟨n2,v2,g1,g2,g3,g4,g5⟩|⟨n2,g1,g2,g3⟩
   ·left;obtain⟨b2,C⟩:=g5 12 13 q o A;have G:k+(n+1)+1+(n2+1)<=s.size:=by
     have:(s.data.toList.drop (k+(n+1)+1)).length=s.size-(k+(n+1)+1):=by simp
     omega
    refine⟨n+1+1+(n2+1),v,v2,by omega,by omega,?_,λu fa f=>?_,13,b2,?_,Or.inr rfl⟩
    ·rw[w,g1,show k+(n+1)+1+(n2+1)=k+(n+1+1+(n2+1)) by omega]
    ·rw[d,Rf.items];simp only[if_neg l];rw[<-d,D];simp only[q0n,g];rw[if_pos trivial,<-t,g2];simp only[q0n];rw[show k+(n+1)+1+(n2+1)=k+(n+1+1+(n2+1)) by omega];rfl
    have J:(s.data.toList.drop k).take (n+1+1+(n2+1))=(s.data.toList.drop k).take (n+1)++(45::(s.data.toList.drop (k+(n+1)+1)).take (n2+1)):=by
     rw[show n+1+1+(n2+1)=(n+1)+(1+(n2+1)) by omega,List.take_add,q0n,g,t,show 1+(n2+1)=(n2+1)+1 by omega,List.take_succ_cons]
    rw[J,q2t _ _ _ _ _ _ x,q0z _ z rfl rfl];exact C
   right;refine⟨n+1+1+n2,by rw[w];exact g1,by rw[w];simp only[g2];omega,?_⟩;rw[i,q2E _ _ _ _ _ _ _ x,B,g,q1F _ z rfl,<-t,g3 12 13 q o (by omega) A];omega
  left;have a:bat s ((k+(n+1):Nat):Int)≠45:=by
   rcases hd:s.data.toList.drop (k+(n+1))with _|⟨c2,j⟩
   ·rw[q4W hd];simp[at_]
   rw[q4W hd];simp only[at_,List.getElem?_cons_zero];intro e;apply h;have:c2=45:=UInt8.toNat_inj.1 (by simpa using (by omega:c2.toNat=45));exact⟨j,by rw[hd,this]⟩
  refine⟨n+1,v,v,by omega,F,?_,λu fa f=>?_,11,q,x,Or.inl ⟨rfl,?_⟩⟩
  ·rw[Pg.readItem,if_pos p,H,if_neg a,I]
  ·rw[d,Rf.items];simp only[if_neg l];rw[<-d,D];simp only[q0n];rcases hd:s.data.toList.drop (k+(n+1))with _|⟨c2,j⟩
   ·rw[q7o]
   simp only;rw[if_neg (λe=>h ⟨j,by rw[hd,e]⟩),if_neg (by omega)];rfl
  intro c2 j M e;exact h ⟨j,by rw[M,e]⟩
 right;refine⟨n,?_,?_,E m 11 b o hm hi⟩
 ·rw[Pg.readItem,y];rfl
 rw[Pg.readItem,y];exact D
variable {b' : Int}{r : List UInt8}{i k n : Nat}{F : Nat → Bool}{c d : UInt8}
theorem q0T {s:ByteArray} (h:s.data.toList.drop k=c::r):k<s.size:=by
 rcases Nat.lt_or_ge k s.size with a|a
 ·exact a
 rw[List.drop_eq_nil_of_le (by simpa using a)]at h;cases h
theorem q3I (l:List UInt8) (k n j:Nat):(l.drop k).take (n+j)=(l.drop k).take n++(l.drop (k+n)).take j:=by
 rw[List.take_add,List.drop_drop]
theorem q5s (s:ByteArray) (first:Nat) (o:Int):∀(u k:Nat) (fa:Int) (f:Nat->Bool) (m b:Int),s.size<u+k->k<=s.size->-1<=fa ->
  ((k=first/\(m=10\/(m=9/\∀c r,s.data.toList.drop k=c::r->c≠94)))\/(first<k/\((m=11/\∀c r,s.data.toList.drop k=c::r->c≠45)\/m=13))) ->
  (∃(j:Nat) (F:Nat->Bool) (FA:Int),k<=j/\j<s.size/\Pg.setLoop (bat s) s.size first u k fa f=⟨(j:Int)+1,true,F,FA⟩/\-1<=FA/\(∀v,s.size<v+k->Rf.items v (s.data.toList.drop k) k fa f=some (j,FA,F))/\∃b',steps m b o ((s.data.toList.drop k).take (j+1-k))=some (1,b')) \/
  ((Pg.setLoop (bat s) s.size first u k fa f).ok=false/\Rf.formFrom m b o k (s.data.toList.drop k)=(Pg.setLoop (bat s) s.size first u k fa f).n):=by
 intro u
 induction u with
 |zero=>intro k fa f m b x t;omega
 |succ u ih=>
  intro k fa f m b hu hk J a;have C:1<m:=by rcases a with ⟨_,h|h⟩|⟨_,h|h⟩<;>omega
  rcases hd:s.data.toList.drop k with _|⟨c,r⟩
  ·right;have M:k=s.size:=by
    have:s.size<=k:=by simpa using hd
    omega
   have K:¬(k:Int)<(s.size:Int):=by omega
   rw[Pg.setLoop,if_neg K];refine⟨rfl,?_⟩;rw[q3t _ _ _ _ C,M]
  have N:=q0T hd;have q:(k:Int)<(s.size:Int):=by omega
  have z:bat s (k:Int)=c.toNat:=by rw[q4W hd];rfl
  by_cases g:c=93/\first<k
  ·left;obtain⟨rfl,I⟩:=g;have hm:m=11\/m=13:=by
    rcases a with ⟨h,_⟩|⟨_,h|h⟩
    ·omega
    ·exact Or.inl h.1
    exact Or.inr h
   refine⟨k,f,fa,Nat.le_refl _,N,?_,J,λv hv=>?_,b,?_⟩
   ·rw[Pg.setLoop,if_pos q,if_pos ⟨by rw[z];rfl,by omega⟩]
   ·rcases v with _|v
    ·omega
    rfl
   rw[show k+1-k=1 by omega];show steps m b o [93]=_;have hx:Rf.read m b o ((93:UInt8).toNat:Int)=⟨true,1,b,o⟩:=by
    rcases hm with rfl|rfl<;>rfl
   rw[q0z _ hx rfl rfl];rfl
  have hi:∀E V,s.data.toList.drop k=E::V->Rf.read m b o E.toNat=Rf.inner m b o E.toNat 11:=by
   intro E V U;rw[hd]at U;cases U;have G:∀d:UInt8,c≠d->(c.toNat:Int)≠d.toNat:=λd h e=>h (UInt8.toNat_inj.1 (by omega))
   rcases a with ⟨_,h|⟨h,t⟩⟩|⟨I,⟨h,t⟩|h⟩
   ·subst h;simp[Rf.read,Rf.rest]
   ·subst h;have:=G 94 (t c r hd);have h':(c.toNat:Int)≠94:=this;simp only[Rf.read,Rf.rest];rw[if_neg h'];simp
   ·subst h;have x:(c.toNat:Int)≠45:=G 45 (t c r hd);have y:(c.toNat:Int)≠93:=G 93 (λe=>g ⟨e,I⟩);simp only[Rf.read,Rf.rest];rw[if_neg x,if_neg y];simp
   subst h;have y:(c.toNat:Int)≠93:=G 93 (λe=>g ⟨e,I⟩);simp only[Rf.read,Rf.rest];rw[if_neg y];simp
  have Q:¬(bat s (k:Int)=93/\(first:Int)<k):=by
   rintro ⟨x,t⟩;rw[z]at x;exact g ⟨UInt8.toNat_inj.1 (by simpa using (by omega:c.toNat=93)),by omega⟩
  have T:Pg.setLoop (bat s) s.size first (u+1) k fa f=if (Pg.readItem (bat s) k).ok then Pg.setLoop (bat s) s.size first u (Pg.readItem (bat s) k).n (if (Pg.readItem (bat s) k).hi<(Pg.readItem (bat s) k).lo/\fa=-1 then (k:Int) else fa) (Pg.withF f (Pg.readItem (bat s) k).lo (Pg.readItem (bat s) k).hi) else ⟨(Pg.readItem (bat s) k).n,false,f,fa⟩:=by
   rw[Pg.setLoop,if_pos q,if_neg Q]
  rcases q9C s k m b o C hi with ⟨n,lo,l,aa,P,L,p,m2,W,D,O⟩|⟨n,x,t,y⟩
  ·have w:Pg.setLoop (bat s) s.size first (u+1) k fa f=Pg.setLoop (bat s) s.size first u ((k+n:Nat):Int) (if l<lo/\fa<0 then (k:Int) else fa) (Pg.withF f lo l):=by
    rw[T,L];simp only[if_true];have:(fa=-1)<->(fa<0):=by omega
    simp only[this]
   have A:-1<=(if l<lo/\fa<0 then (k:Int) else fa):=by split<;>omega
   have i:((k+n=first/\(m2=10\/(m2=9/\∀c r,s.data.toList.drop (k+n)=c::r->c≠94)))\/(first<k+n/\((m2=11/\∀c r,s.data.toList.drop (k+n)=c::r->c≠45)\/m2=13))):=by
    right;refine⟨?_,O⟩;rcases a with ⟨h,_⟩|⟨h,_⟩<;>omega
   rcases ih (k+n) _ (Pg.withF f lo l) m2 W (by omega) P A i with ⟨j,F,FA,S,H,X,Y,Z,b',g6⟩|⟨S,H⟩
   ·left;refine⟨j,F,FA,by omega,H,by rw[w,X],Y,λv hv=>?_,b',?_⟩
    ·rcases v with _|v
     ·omega
     rw[<-hd,p];exact Z v (by omega)
    rw[<-hd,show j+1-k=n+(j+1-(k+n)) by omega,q3I,q2t _ _ _ _ _ _ D];exact g6
   right;refine⟨by rw[w];exact S,?_⟩;have R:s.data.toList.drop k=(s.data.toList.drop k).take n++s.data.toList.drop (k+n):=by rw[<-q0n,List.take_append_drop]
   have B:((s.data.toList.drop k).take n).length=n:=by rw[List.length_take];simp;omega
   rw[w,<-H,<-hd];rw[R,q2E _ _ _ _ _ _ _ D,B]
  right;rw[T,x];refine⟨rfl,?_⟩;rw[<-hd];simp only[t];exact y
theorem q4t (s:ByteArray) (i:Nat) (t:List UInt8) (m b o:Int) (hm:m=0\/m=1) (h:s.data.toList.drop i=91::t):
  (∃(n:Nat) (F:Nat->Bool) (FA:Int),i+2<=n/\n<=s.size/\Pg.readSet (bat s) s.size i=⟨(n:Int),true,F,FA⟩/\Rf.set t i=some (n,FA,F)/\-1<=FA/\∃b',steps m b o ((s.data.toList.drop i).take (n-i))=some (1,b')) \/
  ((Pg.readSet (bat s) s.size i).ok=false/\Rf.formFrom m b o i (s.data.toList.drop i)=(Pg.readSet (bat s) s.size i).n):=by
 have A:=q0T h;have w:Rf.read m b o ((91:UInt8).toNat:Int)=⟨true,9,b,o⟩:=by rcases hm with rfl|rfl<;>rfl
 have a:s.data.toList.drop (i+1)=t:=by rw[<-q0n,h];rfl
 by_cases d:∃r,t=94::r
 ·obtain⟨r,rfl⟩:=d;have y:=q0T a;have l:s.data.toList.drop (i+2)=r:=by rw[show i+2=i+1+1 by omega,<-q0n,a];rfl
  have x:bat s ((i:Int)+1)=94:=by rw[y0X h];rfl
  have p:Rf.read 9 b o ((94:UInt8).toNat:Int)=⟨true,10,b,o⟩:=rfl;have v:r.length=s.size-(i+2):=by rw[<-l];simp
  have g:Pg.readSet (bat s) s.size i=⟨(Pg.setLoop (bat s) s.size ((i+2:Nat):Int) (s.size+1) ((i+2:Nat):Int) (-1) (λ_=>false)).n,(Pg.setLoop (bat s) s.size ((i+2:Nat):Int) (s.size+1) ((i+2:Nat):Int) (-1) (λ_=>false)).ok,λk=>!(Pg.setLoop (bat s) s.size ((i+2:Nat):Int) (s.size+1) ((i+2:Nat):Int) (-1) (λ_=>false)).f k,(Pg.setLoop (bat s) s.size ((i+2:Nat):Int) (s.size+1) ((i+2:Nat):Int) (-1) (λ_=>false)).fa⟩:=by
   rw[Pg.readSet,if_pos x];rfl
  rcases q5s s (i+2) o (s.size+1) (i+2) (-1) (λ_=>false) 10 b (by omega) (by omega) (by omega) (Or.inl ⟨rfl,Or.inl rfl⟩)with ⟨j,F,FA,g1,g2,g3,g4,g5,b',g6⟩|⟨g1,g2⟩
  ·left;refine⟨j+1,λk=>!F k,FA,by omega,by omega,by rw[g,g3];rfl,?_,g4,b',?_⟩
   ·have:=g5 (r.length+1) (by omega);rw[l]at this;simp only[Rf.set,if_true,this,Option.map_some];simp
   rw[show j+1-i=2+(j+1-(i+2)) by omega,q3I,h];show steps m b o (91::94::((s.data.toList.drop (i+2)).take (j+1-(i+2))))=_;rw[q0z _ w rfl rfl,q0z _ p rfl rfl];exact g6
  right;refine⟨by rw[g];exact g1,?_⟩;rw[h,q1F _ w rfl,q1F _ p rfl,g];simp only[<-g2,l]
 have x:bat s ((i:Int)+1)≠94:=by
  rw[y0X h];rcases t with _|⟨c,r⟩
  ·simp[at_]
  simp only[at_,List.getElem?_cons_succ,List.getElem?_cons_zero];intro e;exact d ⟨r,by rw[show c=94 from UInt8.toNat_inj.1 (by simpa using (by omega:c.toNat=94))]⟩
 have g:Pg.readSet (bat s) s.size i=Pg.setLoop (bat s) s.size ((i+1:Nat):Int) (s.size+1) ((i+1:Nat):Int) (-1) (λ_=>false):=by
  rw[Pg.readSet,if_neg x];rfl
 have u:∀c r,s.data.toList.drop (i+1)=c::r->c≠94:=by
  intro c r z e;exact d ⟨r,by rw[<-a,z,e]⟩
 rcases q5s s (i+1) o (s.size+1) (i+1) (-1) (λ_=>false) 9 b (by omega) (by omega) (by omega) (Or.inl ⟨rfl,Or.inr ⟨rfl,u⟩⟩)with ⟨j,F,FA,g1,g2,g3,g4,g5,b',g6⟩|⟨g1,g2⟩
 ·left;refine⟨j+1,F,FA,by omega,by omega,by rw[g,g3];rfl,?_,g4,b',?_⟩
  ·rcases t with _|⟨c,r⟩
   ·rw[a]at g5;have:=g5 (s.size+1) (by omega);rw[q7o]at this;cases this
   have v:(c::r).length=s.size-(i+1):=by rw[<-a];simp
   have:=g5 (r.length+2) (by simp at v;omega);rw[a]at this;have q:=u c r a;simp only[Rf.set,if_neg q,this,Option.map_some];simp
  rw[show j+1-i=1+(j+1-(i+1)) by omega,q3I,h];show steps m b o (91::((s.data.toList.drop (i+1)).take (j+1-(i+1))))=_;rw[q0z _ w rfl rfl];exact g6
 right;refine⟨by rw[g];exact g1,?_⟩;rw[h,q1F _ w rfl,g,<-g2,a]
def modeOf (kd:Int):Int:=if Pg.endsPiece kd then 1 else 0
def TokOK (s:ByteArray) (k:Nat) (m b op kd:Int):Prop:=
 ∃(n:Nat) (F:Nat->Bool) (mo fa b':Int),1<=n/\k+n<=s.size/\Pg.readPart (bat s) s.size k kd=⟨((k+n:Nat):Int),true,F,mo,fa⟩ /\
  Rf.formFrom m b op k (s.data.toList.drop k)=Rf.formFrom (modeOf kd) b' (Pg.opens kd op) (k+n) (s.data.toList.drop (k+n)) /\
  (op<=6->Rf.deepFrom m b op k (s.data.toList.drop k)=if 6<Pg.opens kd op then (k:Int) else Rf.deepFrom (modeOf kd) b' (Pg.opens kd op) (k+n) (s.data.toList.drop (k+n))) /\
  -1<=fa /\
  (∃c,∀v,Rf.valueFrom s.data.toList (v+c) k=if fa=-1 then Rf.valueFrom s.data.toList v (k+n) else some fa) /\
  (∃c,∀v,Rf.emptyFrom s.data.toList (v+c) k=if kd=1/\Rf.cntTo F 256=0 then some (k:Int) else Rf.emptyFrom s.data.toList v (k+n))
theorem q1n {s:ByteArray}{m b op m':Int} (hn:k+n<=s.size) (hst:steps m b op ((s.data.toList.drop k).take n)=some (m',b')):
  Rf.formFrom m b op k (s.data.toList.drop k)=Rf.formFrom m' b' op (k+n) (s.data.toList.drop (k+n))/\(op<=6->Rf.deepFrom m b op k (s.data.toList.drop k)=if 6<op then (k:Int) else Rf.deepFrom m' b' op (k+n) (s.data.toList.drop (k+n))):=by
 have c:s.data.toList.drop k=(s.data.toList.drop k).take n++s.data.toList.drop (k+n):=by rw[<-q0n,List.take_append_drop]
 have a:((s.data.toList.drop k).take n).length=n:=by rw[List.length_take];simp;omega
 constructor
 ·have:=q2E _ _ _ _ _ k (s.data.toList.drop (k+n)) hst;rw[a,<-c]at this;exact this
 intro d;have:=q5f d _ _ _ _ _ k (s.data.toList.drop (k+n)) hst;rw[a,<-c]at this;rw[if_neg (by omega)];exact this
theorem q0G (h:c≠d):(c.toNat:Int)≠(d.toNat:Int):=λe=>h (UInt8.toNat_inj.1 (by omega))
theorem q8Y (v:Int) (h0:0<=v) (h1:v<256):Rf.cntTo (Pg.withF (λ_=>false) v v) 256≠0:=by
 obtain⟨n,rfl⟩:=Int.eq_ofNat_of_zero_le h0;have:∀(f:Nat->Bool) (k:Nat),f k=true->∀n,k<n->0<Rf.cntTo f n:=by
  intro f k a n
  induction n with
  |zero=>intro h;omega
  |succ n ih=>
   intro h;unfold Rf.cntTo;by_cases e:k=n
   ·subst e;simp[a]
   have:=ih (by omega);omega
 have:=this (Pg.withF (λ_=>false) (n:Int) (n:Int)) n (by simp[Pg.withF]) 256 (by omega);omega
theorem y2X:Rf.cntTo (λk=>!(Pg.withF (λ_=>false) 10 10 k)) 256≠0:=by decide +kernel
theorem q1p {l:List UInt8} (hd:l.drop k=c::r) (h1:c≠92) (h2:c≠91) (h3:c≠123) (v:Nat):Rf.valueFrom l (v+1) k=Rf.valueFrom l v (k+1):=by
 rw[Rf.valueFrom,hd];simp only[if_neg h1,if_neg h2,if_neg h3]
theorem q1c {l:List UInt8} (hd:l.drop k=c::r) (h1:c≠92) (h2:c≠91) (v:Nat):Rf.emptyFrom l (v+1) k=Rf.emptyFrom l v (k+1):=by
 rw[Rf.emptyFrom,hd];simp only[if_neg h1,if_neg h2]
theorem y2u (s:ByteArray) (k:Nat) (t:List UInt8) (m b op:Int) (hm:m=0\/m=1) (hd:s.data.toList.drop k=91::t):
  TokOK s k m b op 1\/((Pg.readPart (bat s) s.size k 1).ok=false/\Rf.formFrom m b op k (s.data.toList.drop k)=(Pg.readPart (bat s) s.size k 1).n):=by
 have q:bat s (k:Int)=91:=by rw[q4W hd];rfl
 have c:Pg.readPart (bat s) s.size k 1=⟨(Pg.readSet (bat s) s.size k).n,(Pg.readSet (bat s) s.size k).ok,(Pg.readSet (bat s) s.size k).f,0,(Pg.readSet (bat s) s.size k).fa⟩:=by
  rw[Pg.readPart,if_pos rfl,Pg.readPlace,if_pos q]
 rcases q4t s k t m b op hm hd with ⟨n,F,a,g,h,l,i,o,b',p⟩|⟨g,h⟩
 ·left;obtain⟨d,e⟩:=q1n (n:=n-k) (by omega) p;rw[show k+(n-k)=n by omega]at d e;refine⟨n-k,F,0,a,b',by omega,by omega,?_,?_,?_,o,⟨1,λv=>?_⟩,⟨1,λv=>?_⟩⟩
  ·rw[c,l,show k+(n-k)=n by omega]
  ·rw[show k+(n-k)=n by omega];exact d
  ·rw[show k+(n-k)=n by omega];exact e
  ·rw[show k+(n-k)=n by omega,Rf.valueFrom,hd];simp only[i];by_cases j:a=-1
   ·subst j;simp
   simp[j,show 0<=a by omega]
  rw[show k+(n-k)=n by omega,Rf.emptyFrom,hd];simp[i]
 right;exact⟨by rw[c];exact g,by rw[c];exact h⟩
theorem y2v (s:ByteArray) (k:Nat) (t:List UInt8) (m b op:Int) (hm:m=0\/m=1) (hd:s.data.toList.drop k=92::t):
  TokOK s k m b op 1\/((Pg.readPart (bat s) s.size k 1).ok=false/\Rf.formFrom m b op k (s.data.toList.drop k)=(Pg.readPart (bat s) s.size k 1).n):=by
 have f:bat s (k:Int)=92:=by rw[q4W hd];rfl
 have e:Pg.readPart (bat s) s.size k 1=⟨(Pg.readEscape (bat s) k).n,(Pg.readEscape (bat s) k).ok,Pg.withF (λ_=>false) (Pg.readEscape (bat s) k).v (Pg.readEscape (bat s) k).v,0,-1⟩:=by
  rw[Pg.readPart,if_pos rfl,Pg.readPlace,if_neg (by rw[f];decide),if_neg (by rw[f];decide),if_pos f]
 have h:Rf.read m b op ((92:UInt8).toNat:Int)=⟨true,2,1,op⟩:=by rcases hm with rfl|rfl<;>rfl
 rcases q3v s k t hd with ⟨n,v,d,a,i,p⟩|⟨n,d,a,i⟩
 ·left;have j:t.length+1=s.size-k:=by
   have:(s.data.toList.drop k).length=s.size-k:=by simp
   rw[hd]at this;simpa using this
  have g:steps m b op ((s.data.toList.drop k).take (n+1))=some (1,1):=by
   rw[hd,List.take_succ_cons,q0z _ h rfl rfl];exact p 1 op
  have c:=Rf.one_bd a;have q:=q0T hd;obtain⟨l,o⟩:=q1n (n:=n+1) (by omega) g;refine⟨n+1,Pg.withF (λ_=>false) v v,0,-1,1,by omega,by omega,by rw[e,d],l,o,by omega,⟨1,λv'=>?_⟩,⟨1,λv'=>?_⟩⟩
  ·rw[Rf.valueFrom,hd];simp only[a];simp
  rw[Rf.emptyFrom,hd];simp only[a];simp[q8Y v c.1 c.2.1]
 right;refine⟨by rw[e];exact d,?_⟩;rw[e,hd,q1F _ h rfl,i 1 op];exact a.symm
theorem q2D (s:ByteArray) (k:Nat) (c:UInt8) (r:List UInt8) (m b op kd:Int) (F:Nat->Bool) (x:Rf.RS) (hd:s.data.toList.drop k=c::r) (h92:c≠92) (h91:c≠91) (h123:c≠123)
  (hx:Rf.read m b op c.toNat=x) (hok:x.ok=true) (hxm:x.m=modeOf kd) (hxo:x.o=Pg.opens kd op) (hp:Pg.readPart (bat s) s.size k kd=⟨(k:Int)+1,true,F,0,-1⟩) (hc:¬(kd=1/\Rf.cntTo F 256=0)):TokOK s k m b op kd:=by
 have d:=q0T hd;have a:s.data.toList.drop (k+1)=r:=by rw[<-q0n,hd];rfl
 refine⟨1,F,0,-1,x.bk,by omega,by omega,by rw[hp];rfl,?_,λ_=>?_,by omega,⟨1,λv=>?_⟩,⟨1,λv=>?_⟩⟩
 ·rw[hd,q1F x hx hok,hxm,hxo,a]
 ·rw[hd,Rf.deepFrom,hx,hxm,hxo,a]
 ·rw[q1p hd h92 h91 h123];simp
 rw[q1c hd h92 h91,if_neg hc]
theorem y0g (b o c:Int):Rf.read 5 b o c=⟨Rf.digit c,if Rf.digit c then 6 else 5,b,o⟩:=by simp[Rf.read,Rf.to]
theorem y2A (b o:Int):Rf.read 6 b o 44=⟨true,7,b,o⟩:=by simp[Rf.read]
theorem y2j (b o c:Int) (h:c≠44):Rf.read 6 b o c=⟨c==125,if (c==125)=true then 1 else 6,b,o⟩:=by simp only[Rf.read,Rf.to,if_neg h];rfl
theorem q8C (b o c:Int):Rf.read 7 b o c=⟨Rf.digit c,if Rf.digit c then 8 else 7,b,o⟩:=by simp[Rf.read,Rf.to]
theorem y2i (b o c:Int):Rf.read 8 b o c=⟨c==125,if (c==125)=true then 1 else 8,b,o⟩:=by simp only[Rf.read,Rf.to];rfl
theorem q3y (c:Int) (h:¬Pg.digitValue c<0):Pg.digitValue c=c-48/\48<=c/\c<=57:=by
 unfold Pg.digitValue at h ⊢;split
 ·rename_i a;exact⟨rfl,a.1,a.2⟩
 rename_i a;rw[if_neg a]at h;omega
def CountAt (t:List UInt8) (n:Nat) (mo le:Int):Prop:=
 (∃x r,t=x::125::r/\n=3/\48<=(x.toNat:Int)/\(x.toNat:Int)<=57/\mo=(x.toNat:Int)-48/\le=(x.toNat:Int)-48) \/
 (∃x z r,t=x::44::z::125::r/\n=5/\48<=(x.toNat:Int)/\(x.toNat:Int)<=57/\48<=(z.toNat:Int)/\(z.toNat:Int)<=57/\mo=(z.toNat:Int)-48/\le=(x.toNat:Int)-48)
theorem q4Q (s:ByteArray) (k:Nat) (t:List UInt8) (b o:Int) (hd:s.data.toList.drop k=123::t):
  (∃(n:Nat) (mo le:Int),Pg.readCount (bat s) k=⟨mo,((k+n:Nat):Int),true⟩/\Pg.digitValue (bat s ((k:Int)+1))=le/\CountAt t n mo le/\steps 1 b o ((123::t).take n)=some (1,b)) \/
  ((Pg.readCount (bat s) k).ok=false/\Rf.formFrom 1 b o k (123::t)=(Pg.readCount (bat s) k).n):=by
 have H:=y0X hd;have e2:=y3G hd;have I:=y3F hd;have J:=y3M hd;have M:(k:Int)+2+1=(k:Int)+3:=by omega
 have N:(k:Int)+2+2=(k:Int)+4:=by omega
 have C:Rf.read 1 b o ((123:UInt8).toNat:Int)=⟨true,5,b,o⟩:=rfl;rcases t with _|⟨x,t⟩
 ·right;have B:Pg.digitValue (bat s ((k:Int)+1))<0:=by rw[H];simp[at_,Pg.digitValue]
  rw[Pg.readCount,if_pos B];refine⟨rfl,?_⟩;rw[q1F _ C rfl,q3t _ _ _ _ (by simp)];first|(simp;done)|(simp;omega)|omega
 have h:bat s ((k:Int)+1)=x.toNat:=by rw[H];rfl
 by_cases B:Pg.digitValue x.toNat<0
 ·right;have e:Rf.digit x.toNat=false:=by rw[q3x];simp;omega
  rw[Pg.readCount,h,if_pos B];refine⟨rfl,?_⟩;rw[q1F _ C rfl,q3O _ (y0g b o _) e];first|(simp;done)|(simp;omega)|omega
 have e:Rf.digit x.toNat=true:=by rw[q3x];simp;omega
 obtain⟨F,K,L⟩:=q3y _ B;have D:Pg.readCount (bat s) k=Pg.readMost (bat s) ((k:Int)+2) ((x.toNat:Int)-48):=by rw[Pg.readCount,h,if_neg B,F]
 have d:∀r,Rf.formFrom 1 b o k (123::x::r)=Rf.formFrom 6 b o (k+2) r:=λr=>by
  rw[q1F _ C rfl,q1F _ (y0g b o _) e];simp only[e,if_true]
 have A:∀r,steps 1 b o (123::x::r)=steps 6 b o r:=λr=>by
  rw[q0z _ C rfl rfl,q0z _ (y0g b o _) e rfl];simp only[e,if_true]
 rcases t with _|⟨y,t⟩
 ·right;have O:bat s ((k:Int)+2)=-1:=by rw[e2];rfl
  rw[D,Pg.readMost,O];refine⟨rfl,?_⟩;rw[d,q3t _ _ _ _ (by simp)];first|(simp;done)|(simp;omega)|omega
 have m:bat s ((k:Int)+2)=y.toNat:=by rw[e2];rfl
 by_cases f:y=125
 ·subst f;left;refine⟨3,(x.toNat:Int)-48,(x.toNat:Int)-48,?_,by rw[h,F],Or.inl ⟨x,t,rfl,rfl,K,L,rfl,rfl⟩,?_⟩
  ·rw[D,Pg.readMost,m,if_pos (by decide),show(k:Int)+2+1=((k+3:Nat):Int) by omega]
  show steps 1 b o [123,x,125]=_;rw[A,q0z _ (y2j b o _ (by decide)) (by rfl) rfl];rfl
 have j:=q0G f;have a:(y.toNat:Int)≠125:=j;by_cases l:y=44
 ·subst l;have u:Rf.read 6 b o ((44:UInt8).toNat:Int)=⟨true,7,b,o⟩:=y2A b o;have v:Pg.readCount (bat s) k=if Pg.digitValue (bat s ((k:Int)+3))<0 then ⟨0,(k:Int)+3,false⟩ else if bat s ((k:Int)+4)=125 then ⟨Pg.digitValue (bat s ((k:Int)+3)),(k:Int)+2+3,true⟩ else ⟨0,(k:Int)+4,false⟩:=by
   rw[D,Pg.readMost,m,if_neg (by decide),if_pos (by decide),M,N]
  rcases t with _|⟨z,t⟩
  ·right;have p:Pg.digitValue (bat s ((k:Int)+3))<0:=by rw[I];simp[at_,Pg.digitValue]
   rw[v,if_pos p];refine⟨rfl,?_⟩;rw[d,q1F _ u rfl,q3t _ _ _ _ (by simp)];first|(simp;done)|(simp;omega)|omega
  have i:bat s ((k:Int)+3)=z.toNat:=by rw[I];rfl
  by_cases p:Pg.digitValue z.toNat<0
  ·right;have c:Rf.digit z.toNat=false:=by rw[q3x];simp;omega
   rw[v,i,if_pos p];refine⟨rfl,?_⟩;rw[d,q1F _ u rfl,q3O _ (q8C b o _) c];first|(simp;done)|(simp;omega)|omega
  have c:Rf.digit z.toNat=true:=by rw[q3x];simp;omega
  obtain⟨P,Q,R⟩:=q3y _ p;rcases t with _|⟨G,t⟩
  ·right;have E:bat s ((k:Int)+4)=-1:=by rw[J];rfl
   rw[v,i,if_neg p,E,if_neg (by decide)];refine⟨rfl,?_⟩;rw[d,q1F _ u rfl,q1F _ (q8C b o _) c];simp only[c,if_true];rw[q3t _ _ _ _ (by simp)];first|(simp;done)|(simp;omega)|omega
  have q:bat s ((k:Int)+4)=G.toNat:=by rw[J];rfl
  by_cases E:G=125
  ·subst E;left;refine⟨5,(z.toNat:Int)-48,(x.toNat:Int)-48,?_,by rw[h,F],Or.inr ⟨x,z,t,rfl,rfl,K,L,Q,R,rfl,rfl⟩,?_⟩
   ·rw[v,i,if_neg p,q,if_pos (by decide),P,show(k:Int)+2+3=((k+5:Nat):Int) by omega]
   show steps 1 b o [123,x,44,z,125]=_;rw[A,q0z _ u rfl rfl,q0z _ (q8C b o _) c rfl];simp only[c,if_true];rw[q0z _ (y2i b o _) (by rfl) rfl];rfl
  right;have w:(G.toNat:Int)≠125:=q0G E;rw[v,i,if_neg p,q,if_neg w];refine⟨rfl,?_⟩;rw[d,q1F _ u rfl,q1F _ (q8C b o _) c];simp only[c,if_true];rw[q3O _ (y2i b o _) (by simpa using w)];first|(simp;done)|(simp;omega)|omega
 right;have g:(y.toNat:Int)≠44:=q0G l;rw[D,Pg.readMost,m,if_neg a,if_neg g];refine⟨rfl,?_⟩;rw[d,q3O _ (y2j b o _ g) (by simpa using a)];first|(simp;done)|(simp;omega)|omega
theorem q1K {x:UInt8} (h0:48<=(x.toNat:Int)) (h1:(x.toNat:Int)<=57):x≠92/\x≠91/\x≠123:=by
 refine⟨?_,?_,?_⟩<;>(intro e;subst e;revert h0 h1;decide)
theorem q9Q (s:ByteArray) (k:Nat) (t:List UInt8) (b op:Int) (hd:s.data.toList.drop k=123::t):
  TokOK s k 1 b op 8\/((Pg.readPart (bat s) s.size k 8).ok=false/\Rf.formFrom 1 b op k (s.data.toList.drop k)=(Pg.readPart (bat s) s.size k 8).n):=by
 have w:Pg.readPart (bat s) s.size k 8=⟨(Pg.readCount (bat s) k).n,(Pg.readCount (bat s) k).ok,λ_=>false,(Pg.readCount (bat s) k).v,Pg.countFalls (bat s) k⟩:=rfl;have c:(s.data.toList.drop k).length=s.size-k:=by simp
 rw[hd]at c;rcases q4Q s k t b op hd with ⟨n,mo,le,m,q,u,E⟩|⟨m,q⟩
 ·left;have J:=q0T hd;have y:1<=n/\k+n<=s.size:=by
   rcases u with ⟨x,r,rfl,rfl,_⟩|⟨x,z,r,rfl,rfl,_⟩<;>(simp at c;omega)
  have I:Pg.countFalls (bat s) k=if mo<le then (k:Int) else -1:=by rw[Pg.countFalls,m,q]
  rw[<-hd]at E;obtain⟨G,H⟩:=q1n y.2 E;refine⟨n,λ_=>false,mo,if mo<le then (k:Int) else -1,b,y.1,y.2,by rw[w,m,I],G,H,by split<;>omega,?_,?_⟩
  ·rcases u with ⟨x,r,rfl,rfl,i,j,rfl,rfl⟩|⟨x,z,r,rfl,rfl,i,j,C,D,rfl,rfl⟩
   ·have e:s.data.toList.drop (k+1)=x::125::r:=by rw[<-q0n,hd];rfl
    have f:s.data.toList.drop (k+2)=125::r:=by rw[<-q0n,hd];rfl
    obtain⟨g,h,l⟩:=q1K i j;refine⟨3,λv=>?_⟩;have a:(if (x.toNat:Int)-48<(x.toNat:Int)-48 then (k:Int) else -1)=-1:=if_neg (by omega);simp only[a,if_true];rw[show v+3=v+2+1 by omega,Rf.valueFrom,hd];simp only;rw[if_neg (by decide),if_neg (by decide),if_pos trivial,if_neg (by decide)];rw[show v+2=v+1+1 by omega,q1p e g h l,q1p f (by decide) (by decide) (by decide)]
   have e:s.data.toList.drop (k+1)=x::44::z::125::r:=by rw[<-q0n,hd];rfl
   have f:s.data.toList.drop (k+2)=44::z::125::r:=by rw[<-q0n,hd];rfl
   have o:s.data.toList.drop (k+3)=z::125::r:=by rw[<-q0n,hd];rfl
   have p:s.data.toList.drop (k+4)=125::r:=by rw[<-q0n,hd];rfl
   obtain⟨g,h,l⟩:=q1K i j;obtain⟨A,B,F⟩:=q1K C D;refine⟨5,λv=>?_⟩;rw[show v+5=v+4+1 by omega,Rf.valueFrom,hd];simp only;rw[if_neg (by decide),if_neg (by decide),if_pos trivial,if_pos trivial];by_cases d:z.toNat<x.toNat
   ·have a:(if (z.toNat:Int)-48<(x.toNat:Int)-48 then (k:Int) else -1)=k:=if_pos (by omega);rw[if_pos d,a,if_neg (by omega)]
   have a:(if (z.toNat:Int)-48<(x.toNat:Int)-48 then (k:Int) else -1)=-1:=if_neg (by omega);rw[if_neg d];simp only[a,if_true];rw[show v+4=v+3+1 by omega,q1p e g h l,show v+3=v+2+1 by omega,q1p f (by decide) (by decide) (by decide),show v+2=v+1+1 by omega,q1p o A B F,q1p p (by decide) (by decide) (by decide)]
  rcases u with ⟨x,r,rfl,rfl,i,j,rfl,rfl⟩|⟨x,z,r,rfl,rfl,i,j,C,D,rfl,rfl⟩
  ·have e:s.data.toList.drop (k+1)=x::125::r:=by rw[<-q0n,hd];rfl
   have f:s.data.toList.drop (k+2)=125::r:=by rw[<-q0n,hd];rfl
   obtain⟨g,h,l⟩:=q1K i j;refine⟨3,λv=>?_⟩;rw[if_neg (by omega),show v+3=v+2+1 by omega,q1c hd (by decide) (by decide),show v+2=v+1+1 by omega,q1c e g h,q1c f (by decide) (by decide)]
  have e:s.data.toList.drop (k+1)=x::44::z::125::r:=by rw[<-q0n,hd];rfl
  have f:s.data.toList.drop (k+2)=44::z::125::r:=by rw[<-q0n,hd];rfl
  have o:s.data.toList.drop (k+3)=z::125::r:=by rw[<-q0n,hd];rfl
  have p:s.data.toList.drop (k+4)=125::r:=by rw[<-q0n,hd];rfl
  obtain⟨g,h,l⟩:=q1K i j;obtain⟨A,B,F⟩:=q1K C D;refine⟨5,λv=>?_⟩;rw[if_neg (by omega),show v+5=v+4+1 by omega,q1c hd (by decide) (by decide),show v+4=v+3+1 by omega,q1c e g h,show v+3=v+2+1 by omega,q1c f (by decide) (by decide),show v+2=v+1+1 by omega,q1c o A B,q1c p (by decide) (by decide)]
 right;refine⟨by rw[w];exact m,?_⟩;rw[w,hd];exact q
theorem y1o {m:Int} (b o c:Int) (hm:m=0\/m=1):Rf.read m b o c=Rf.outside m b o c:=by
 rcases hm with rfl|rfl<;>simp[Rf.read,Rf.rest]
def Tok (s:ByteArray) (k:Nat) (m b op before:Int):Prop:=
 (Pg.canStand (Pg.kindOf (bat s k)) before op=false/\Rf.formFrom m b op k (s.data.toList.drop k)=(k:Int)) \/
 (Pg.canStand (Pg.kindOf (bat s k)) before op=true/\(TokOK s k m b op (Pg.kindOf (bat s k)) \/
  ((Pg.readPart (bat s) s.size k (Pg.kindOf (bat s k))).ok=false/\Rf.formFrom m b op k (s.data.toList.drop k)=(Pg.readPart (bat s) s.size k (Pg.kindOf (bat s k))).n)))
theorem token (s:ByteArray) (k:Nat) (c:UInt8) (r:List UInt8) (m b op before:Int) (hd:s.data.toList.drop k=c::r) (hmb:m=modeOf before):Tok s k m b op before:=by
 have L:m=0\/m=1:=by rw[hmb,modeOf];split<;>simp
 have H:bat s (k:Int)=c.toNat:=by rw[q4W hd];rfl
 have a:Rf.read m b op c.toNat=Rf.outside m b op c.toNat:=y1o _ _ _ L;have f:∀kd:Int,kd≠1->kd≠8->Pg.readPart (bat s) s.size k kd=⟨(k:Int)+1,true,λ_=>false,0,-1⟩:=λkd T U=>by rw[Pg.readPart,if_neg T,if_neg U]
 unfold Tok;rw[H];by_cases g:c=91
 ·subst g;right;exact⟨rfl,y2u s k r m b op L hd⟩
 by_cases i:c=92
 ·subst i;right;exact⟨rfl,y2v s k r m b op L hd⟩
 by_cases d:c=123
 ·subst d;cases hep:Pg.endsPiece before
  ·left;have v:m=0:=by rw[hmb,modeOf,hep];rfl
   subst v;refine⟨?_,?_⟩
   ·show Pg.canStand 8 before op=false;simp[Pg.canStand,Pg.isSuffix,hep]
   rw[hd,q3O _ a rfl]
  right;have w:m=1:=by rw[hmb,modeOf,hep];rfl
  subst w;refine⟨?_,q9Q s k r b op hd⟩;show Pg.canStand 8 before op=true;simp[Pg.canStand,Pg.isSuffix,hep]
 by_cases z:c=40
 ·subst z;right;refine⟨rfl,Or.inl (q2D s k 40 r m b op 2 (λ_=>false) ⟨true,0,b,op+1⟩ hd i g d ?_ rfl rfl rfl (f 2 (by decide) (by decide)) (by omega))⟩;rw[a];rfl
 by_cases A:c=41
 ·subst A;by_cases M:0<op
  ·right;refine⟨?_,Or.inl (q2D s k 41 r m b op 3 (λ_=>false) ⟨true,1,b,op-1⟩ hd i g d ?_ rfl rfl rfl (f 3 (by decide) (by decide)) (by omega))⟩
   ·show Pg.canStand 3 before op=true;simp[Pg.canStand,M]
   rw[a];show Rf.to m b (op-1) (decide (1<=op)) 1=_;have:decide (1<=op)=true:=by simp;omega
   rw[this];rfl
  left;refine⟨?_,?_⟩
  ·show Pg.canStand 3 before op=false;simp[Pg.canStand];omega
  rw[hd,q3O (Rf.to m b (op-1) (decide (1<=op)) 1) (by rw[a];rfl) (by simp[Rf.to];omega)]
 by_cases p:c=124
 ·subst p;right;refine⟨rfl,Or.inl (q2D s k 124 r m b op 4 (λ_=>false) ⟨true,0,b,op⟩ hd i g d ?_ rfl rfl rfl (f 4 (by decide) (by decide)) (by omega))⟩;rw[a];rfl
 by_cases l:c=42\/c=43\/c=63
 ·have o:∀kd:Int,Pg.kindOf c.toNat=kd->Pg.isSuffix kd=true->kd≠0->kd≠3->kd≠1->kd≠8->Pg.opens kd op=op->modeOf kd=1->Rf.outside m b op c.toNat=⟨m==1,m,b,op⟩ ->
    (Pg.canStand (Pg.kindOf c.toNat) before op=false/\Rf.formFrom m b op k (s.data.toList.drop k)=(k:Int))\/(Pg.canStand (Pg.kindOf c.toNat) before op=true/\(TokOK s k m b op (Pg.kindOf c.toNat)\/((Pg.readPart (bat s) s.size k (Pg.kindOf c.toNat)).ok=false/\Rf.formFrom m b op k (s.data.toList.drop k)=(Pg.readPart (bat s) s.size k (Pg.kindOf c.toNat)).n))):=by
   intro kd K N n0 V R W D x j;rw[K];have C:Pg.canStand kd before op=Pg.endsPiece before:=by simp[Pg.canStand,n0,V,N]
   cases hep:Pg.endsPiece before
   ·left;have v:m=0:=by rw[hmb,modeOf,hep];rfl
    subst v;exact⟨by rw[C,hep],by rw[hd,q3O _ (by rw[a,j]) rfl]⟩
   right;have w:m=1:=by rw[hmb,modeOf,hep];rfl
   subst w;exact⟨by rw[C,hep],Or.inl (q2D s k c r 1 b op kd (λ_=>false) ⟨true,1,b,op⟩ hd i g d (by rw[a,j];rfl) rfl x.symm D.symm (f kd R W) (λh=>R h.1))⟩
  rcases l with rfl|rfl|rfl
  ·exact o 5 rfl rfl (by decide) (by decide) (by decide) (by decide) rfl rfl rfl
  ·exact o 6 rfl rfl (by decide) (by decide) (by decide) (by decide) rfl rfl rfl
  exact o 7 rfl rfl (by decide) (by decide) (by decide) (by decide) rfl rfl rfl
 by_cases u:c=93\/c=125
 ·left;rcases u with rfl|rfl
  ·exact⟨rfl,by rw[hd,q3O _ a rfl]⟩
  exact⟨rfl,by rw[hd,q3O _ a rfl]⟩
 have y:(c.toNat:Int)≠91:=q0G g;have G:(c.toNat:Int)≠92:=q0G i;have q:(c.toNat:Int)≠123:=q0G d;have E:(c.toNat:Int)≠40:=q0G z;have F:(c.toNat:Int)≠41:=q0G A;have t:(c.toNat:Int)≠124:=q0G p;have O:(c.toNat:Int)≠42:=q0G (λe=>l (Or.inl e));have P:(c.toNat:Int)≠43:=q0G (λe=>l (Or.inr (Or.inl e)));have Q:(c.toNat:Int)≠63:=q0G (λe=>l (Or.inr (Or.inr e)));have X:(c.toNat:Int)≠93:=q0G (λe=>u (Or.inl e));have S:(c.toNat:Int)≠125:=q0G (λe=>u (Or.inr e));have J:Pg.kindOf c.toNat=1:=by
  unfold Pg.kindOf;rw[if_neg (by omega),if_neg E,if_neg F,if_neg t,if_neg O,if_neg P,if_neg Q,if_neg q]
 have j:Rf.outside m b op c.toNat=⟨true,1,b,op⟩:=by
  unfold Rf.outside;rw[if_neg G,if_neg y,if_neg E,if_neg F,if_neg t,if_neg (by omega),if_neg q,if_neg (by omega)]
 right;rw[J];refine⟨rfl,Or.inl ?_⟩;by_cases B:(c.toNat:Int)=46
 ·refine q2D s k c r m b op 1 (λk=>!(Pg.withF (λ_=>false) 10 10 k)) ⟨true,1,b,op⟩ hd i g d (by rw[a,j]) rfl rfl rfl ?_ (λh=>y2X h.2);rw[Pg.readPart,if_pos rfl,Pg.readPlace,H,if_neg y,if_pos B]
 have I:=q4V c;refine q2D s k c r m b op 1 (Pg.withF (λ_=>false) c.toNat c.toNat) ⟨true,1,b,op⟩ hd i g d (by rw[a,j]) rfl rfl rfl ?_ (λh=>q8Y c.toNat (by omega) I h.2);rw[Pg.readPart,if_pos rfl,Pg.readPlace,H,if_neg y,if_neg B,if_neg G]
theorem q5h (g:Int->Int) (len first:Int) (hg:∀j,-1<=g j/\g j<256) (hl:0<=len):∀(u:Nat) (e fa:Int) (f:Nat->Bool),0<=e->0<=(Pg.setLoop g len first u e fa f).n:=by
 intro u
 induction u with
 |zero=>intro e fa f h;exact h
 |succ u ih=>
  intro e fa f h;have a:=Pg.readItem_bd g e hg;unfold Pg.setLoop;split
  ·split
   ·simp;omega
   split
   ·exact ih _ _ _ (by omega)
   simp;omega
  exact hl
theorem q7P (g:Int->Int) (len i kd:Int) (hg:∀j,-1<=g j/\g j<256) (hl:0<=len) (h:0<=i):0<=(Pg.readPart g len i kd).n:=by
 have a:=Pg.readEscape_bd g i hg;unfold Pg.readPart;split
 ·simp only;unfold Pg.readPlace;split
  ·unfold Pg.readSet;split
   ·exact q5h g len _ hg hl _ _ _ _ (by omega)
   exact q5h g len _ hg hl _ _ _ _ (by omega)
  split
  ·simp;omega
  split
  ·simp;omega
  simp;omega
 split
 ·simp only;unfold Pg.readCount Pg.readMost
  repeat' split
  all_goals (simp;omega)
 simp;omega
theorem q4A (s:ByteArray):∀(u k:Nat) (bf op b:Int) (acc:List Pg.Pt),s.size<u+k->k<=s.size->0<=op ->
  ((Pg.partsFrom (bat s) s.size u bf op k acc).ok=false/\Rf.formFrom (modeOf bf) b op k (s.data.toList.drop k)=(Pg.partsFrom (bat s) s.size u bf op k acc).n/\0<=(Pg.partsFrom (bat s) s.size u bf op k acc).n) \/
  (∃ps,(Pg.partsFrom (bat s) s.size u bf op k acc).ok=true/\(Pg.partsFrom (bat s) s.size u bf op k acc).ps=acc++ps/\Rf.formFrom (modeOf bf) b op k (s.data.toList.drop k)=-1 /\
   (op<=6->Rf.deepFrom (modeOf bf) b op k (s.data.toList.drop k)=Pg.tooDeep ps op) /\
   (∃c,∀v,Rf.valueFrom s.data.toList (v+c) k=some (Pg.falling ps))/\(∃c,∀v,Rf.emptyFrom s.data.toList (v+c) k=some (Pg.matchless ps))/\(∀p∈ps,0<=p.pl/\-1<=p.fa)):=by
 intro u
 induction u with
 |zero=>intro k bf op b acc i j;omega
 |succ u ih=>
  intro k bf op b acc V U H;rcases hd:s.data.toList.drop k with _|⟨c,r⟩
  ·have P:k=s.size:=by
    have:s.size<=k:=by simpa using hd
    omega
   have D:¬(k:Int)<(s.size:Int):=by omega
   rw[Pg.partsFrom,if_neg D];have E:modeOf bf=0\/modeOf bf=1:=by unfold modeOf;split<;>simp
   by_cases K:op=0
   ·right;subst K;refine⟨[],rfl,by simp,?_,λ_=>rfl,⟨1,λv=>?_⟩,⟨1,λv=>?_⟩,by simp⟩
    ·rw[Rf.formFrom,if_neg (by omega)]
    ·rw[Rf.valueFrom,hd];rfl
    rw[Rf.emptyFrom,hd];rfl
   left;refine⟨by simpa using K,?_,by simp⟩;rw[Rf.formFrom,if_pos (by omega)]
  have Q:=q0T hd;have m:(k:Int)<(s.size:Int):=by omega
  have J:=token s k c r (modeOf bf) b op bf hd rfl;rw[Pg.partsFrom,if_pos m];unfold Tok at J;rw[hd]at J;rcases J with ⟨i,j⟩|⟨i,j|⟨j,B⟩⟩
  ·left;rw[i];exact⟨rfl,j,by simp⟩
  ·obtain⟨n,F,mo,fa,b',R,G,T,a,d,C,⟨x,q⟩,⟨w,l⟩⟩:=j;rw[i,T];simp only[if_true];rw[hd]at a d;have o:0<=Pg.opens (Pg.kindOf (bat s k)) op:=by
    unfold Pg.opens;split
    ·omega
    split
    ·rename_i B;rw[B]at i;simp[Pg.canStand]at i;omega
    exact H
   generalize Pg.kindOf (bat s k)=kd at *;rcases ih (k+n) kd (Pg.opens kd op) b' (acc++[⟨kd,k,F,0,mo,fa⟩]) (by omega) G o with ⟨y,z,A⟩|⟨ps,y,z,A,L,⟨g,M⟩,⟨f,N⟩,O⟩
   ·left;exact⟨y,by rw[a];exact z,A⟩
   right;refine⟨⟨kd,k,F,0,mo,fa⟩::ps,y,by rw[z];simp,by rw[a];exact A,λS=>?_,?_,?_,?_⟩
   ·rw[d S,Pg.tooDeep];by_cases t:6<Pg.opens kd op
    ·rw[if_pos t,if_pos t]
    rw[if_neg t,if_neg t];exact L (by omega)
   ·refine⟨g+x,λv=>?_⟩;rw[show v+(g+x)=(v+g)+x by omega,q,Pg.falling];by_cases e:fa=-1
    ·rw[if_pos e,if_pos e];exact M v
    rw[if_neg e,if_neg e]
   ·refine⟨f+w,λv=>?_⟩;rw[show v+(f+w)=(v+f)+w by omega,l,Pg.matchless];by_cases e:kd=1/\Rf.cntTo F 256=0
    ·rw[if_pos e,if_pos e]
    rw[if_neg e,if_neg e];exact N v
   intro p I;rcases List.mem_cons.1 I with h|h
   ·subst h;exact⟨by simp,C⟩
   exact O p h
  left;rw[i];simp only[if_true];rw[j];refine⟨rfl,B,?_⟩;exact q7P _ _ _ _ (q7B s) (by omega) (by omega)
theorem q2w {l:List UInt8}{v:Int} (h:Rf.one l=some (v,n)) (r:List UInt8):Rf.one (l.take n++r)=some (v,n):=by
 unfold Rf.one at h;rcases l with _|⟨c,t⟩
 ·cases h
 simp only at h;by_cases a:c=92
 ·rw[if_pos a]at h;rcases t with _|⟨d,t⟩
  ·cases h
  simp only at h;by_cases b:d=110
  ·rw[if_pos b]at h;simp only[Option.some.injEq,Prod.mk.injEq]at h;obtain⟨rfl,rfl⟩:=h;simp[Rf.one,a,b]
  rw[if_neg b]at h;by_cases e:d=116
  ·rw[if_pos e]at h;simp only[Option.some.injEq,Prod.mk.injEq]at h;obtain⟨rfl,rfl⟩:=h;simp[Rf.one,a,e]
  rw[if_neg e]at h;by_cases f:d=120
  ·rw[if_pos f]at h;rcases t with _|⟨x,_|⟨y,t⟩⟩
   ·cases h
   ·cases h
   simp only at h;split at h
   ·rename_i g;simp only[Option.some.injEq,Prod.mk.injEq]at h;obtain⟨rfl,rfl⟩:=h;rw[Bool.and_eq_true]at g;simp[Rf.one,a,f,g.1,g.2]
   cases h
  rw[if_neg f]at h;simp only[Option.some.injEq,Prod.mk.injEq]at h;obtain⟨rfl,rfl⟩:=h;simp[Rf.one,a,b,e,f]
 rw[if_neg a]at h;simp only[Option.some.injEq,Prod.mk.injEq]at h;obtain⟨rfl,rfl⟩:=h;simp[Rf.one,a]
theorem q4I:∀(f:Nat) (l:List UInt8) (i:Nat) (fa:Int) (inn:Nat->Bool) (j:Nat) (FA:Int) (F:Nat->Bool),Rf.items f l i fa inn=some (j,FA,F) ->
  ∀(r:List UInt8) (f' i':Nat) (fa':Int),j-i+1<=f'->∃FA',Rf.items f' (l.take (j-i+1)++r) i' fa' inn=some (i'+(j-i),FA',F):=by
 intro f
 induction f with
 |zero=>intro l i fa inn j FA F h;simp[Rf.items]at h
 |succ f ih=>
  intro l i fa inn j FA F h r f' i' fa' C;obtain⟨f',rfl⟩:∃q,f'=q+1:=⟨f'-1,by omega⟩;have z:=Rf.items_ge h;unfold Rf.items at h;rcases l with _|⟨c,t⟩
  ·cases h
  simp only at h;by_cases k:c=93
  ·rw[if_pos k]at h;simp only[Option.some.injEq,Prod.mk.injEq]at h;obtain⟨rfl,_,rfl⟩:=h;refine⟨fa',?_⟩;simp[Rf.items,k]
  rw[if_neg k]at h;rcases ho:Rf.one (c::t)with _|⟨a,n⟩
  ·rw[ho]at h;cases h
  rw[ho]at h;simp only at h;have D:=Rf.one_le ho;have B:=Rf.one_bd ho;rcases hd:(c::t).drop n with _|⟨d,e⟩
  ·rw[hd]at h;cases h
  rw[hd]at h;simp only at h;by_cases p:d=45
  ·rw[if_pos p]at h;rcases ho2:Rf.one e with _|⟨b,n'⟩
   ·rw[ho2]at h;cases h
   rw[ho2]at h;simp only at h;have s:=Rf.items_ge h;have y:=Rf.one_bd ho2;obtain⟨FA',v⟩:=ih _ _ _ _ _ _ _ h r f' (i'+n+1+n') (if b<a/\fa'<0 then (i':Int) else fa') (by omega);refine⟨FA',?_⟩;have w:(c::t).take (j-i+1)++r=(c::t).take n++(d::(e.take n'++((e.drop n').take (j-(i+n+1+n')+1)++r))):=by
    rw[show j-i+1=n+(1+(n'+(j-(i+n+1+n')+1))) by omega,List.take_add,hd,show 1+(n'+(j-(i+n+1+n')+1))=(n'+(j-(i+n+1+n')+1))+1 by omega,List.take_succ_cons,List.take_add];simp[List.append_assoc]
   have x:((c::t).take n).length=n:=by rw[List.length_take];omega
   have g:∃u,(c::t).take n++(d::(e.take n'++((e.drop n').take (j-(i+n+1+n')+1)++r)))=c::u:=by
    obtain⟨n0,rfl⟩:∃q,n=q+1:=⟨n-1,by omega⟩;exact⟨_,by rw[List.take_succ_cons,List.cons_append]⟩
   obtain⟨u,o⟩:=g;have m:=q2w ho (d::(e.take n'++((e.drop n').take (j-(i+n+1+n')+1)++r)));rw[w,o,Rf.items];simp only[if_neg k];rw[<-o,m];simp only;rw[show((c::t).take n++(d::(e.take n'++((e.drop n').take (j-(i+n+1+n')+1)++r)))).drop n=d::(e.take n'++((e.drop n').take (j-(i+n+1+n')+1)++r)) by
    rw[List.drop_append_of_le_length (by omega),List.drop_of_length_le (by omega)];rfl]
   simp only[if_pos p];rw[q2w ho2];simp only;have A:=Rf.one_le ho2;rw[show(e.take n'++((e.drop n').take (j-(i+n+1+n')+1)++r)).drop n'=(e.drop n').take (j-(i+n+1+n')+1)++r by
    rw[List.drop_append_of_le_length (by rw[List.length_take];omega),List.drop_of_length_le (by rw[List.length_take];omega)];rfl]
   rw[v];congr 2;omega
  rw[if_neg p]at h;have s:=Rf.items_ge h;obtain⟨FA',v⟩:=ih _ _ _ _ _ _ _ h r f' (i'+n) fa' (by omega);refine⟨FA',?_⟩;have w:(c::t).take (j-i+1)++r=(c::t).take n++((d::e).take (j-(i+n)+1)++r):=by
   rw[show j-i+1=n+(j-(i+n)+1) by omega,List.take_add,hd,List.append_assoc]
  have x:((c::t).take n).length=n:=by rw[List.length_take];omega
  have g:∃u,(c::t).take n++((d::e).take (j-(i+n)+1)++r)=c::u:=by
   obtain⟨n0,rfl⟩:∃q,n=q+1:=⟨n-1,by omega⟩;exact⟨_,by rw[List.take_succ_cons,List.cons_append]⟩
  obtain⟨u,o⟩:=g;have m:=q2w ho ((d::e).take (j-(i+n)+1)++r);rw[w,o,Rf.items];simp only[if_neg k];rw[<-o,m];simp only;rw[show((c::t).take n++((d::e).take (j-(i+n)+1)++r)).drop n=(d::e).take (j-(i+n)+1)++r by
   rw[List.drop_append_of_le_length (by omega),List.drop_of_length_le (by omega)];rfl]
  rw[List.take_succ_cons,List.cons_append]at v ⊢;simp only[if_neg p];rw[v];congr 2;omega
theorem q6Q {l:List UInt8}{FA:Int} (h:Rf.set l i=some (n,FA,F)) (r:List UInt8) (i':Nat):∃FA',Rf.set (l.take (n-i-1)++r) i'=some (i'+(n-i),FA',F):=by
 have o:=Rf.set_ge h;unfold Rf.set at h;rcases l with _|⟨c,t⟩
 ·cases h
 simp only at h;by_cases e:c=94
 ·rw[if_pos e]at h;rcases hx:Rf.items (t.length+1) t (i+2) (-1) (λ_=>false)with _|⟨a,b,d⟩
  ·rw[hx]at h;cases h
  rw[hx]at h;have m:=Rf.items_ge hx;simp only[Option.map_some,Option.some.injEq,Prod.mk.injEq]at h;obtain⟨rfl,_,rfl⟩:=h;have f:=Rf.items_lt hx;have j:(c::t).take (a+1-i-1)++r=c::(t.take (a-(i+2)+1)++r):=by
   rw[show a+1-i-1=(a-(i+2)+1)+1 by omega,List.take_succ_cons,List.cons_append]
  have k:a-(i+2)+1<=(t.take (a-(i+2)+1)++r).length+1:=by
   rw[List.length_append,List.length_take];omega
  obtain⟨FA',g⟩:=q4I _ _ _ _ _ _ _ _ hx r ((t.take (a-(i+2)+1)++r).length+1) (i'+2) (-1) k;rw[j,Rf.set];simp only[if_pos e,g,Option.map_some];exact⟨FA',by rw[show i'+2+(a-(i+2))+1=i'+(a+1-i) by omega]⟩
 rw[if_neg e]at h;rcases hx:Rf.items (t.length+2) (c::t) (i+1) (-1) (λ_=>false)with _|⟨a,b,d⟩
 ·rw[hx]at h;cases h
 rw[hx]at h;have m:=Rf.items_ge hx;simp only[Option.map_some,Option.some.injEq,Prod.mk.injEq]at h;obtain⟨rfl,_,rfl⟩:=h;have f:=Rf.items_lt hx;have j:(c::t).take (a+1-i-1)++r=c::(t.take (a-(i+1))++r):=by
  rw[show a+1-i-1=(a-(i+1))+1 by omega,List.take_succ_cons,List.cons_append]
 have e2:(c::t).take (a-(i+1)+1)++r=c::(t.take (a-(i+1))++r):=by
  rw[List.take_succ_cons,List.cons_append]
 have k:a-(i+1)+1<=(t.take (a-(i+1))++r).length+2:=by
  simp only[List.length_cons]at f;rw[List.length_append,List.length_take];omega
 obtain⟨FA',g⟩:=q4I _ _ _ _ _ _ _ _ hx r ((t.take (a-(i+1))++r).length+2) (i'+1) (-1) k;rw[e2]at g;rw[j,Rf.set];simp only[if_neg e,g,Option.map_some];exact⟨FA',by rw[show i'+1+(a-(i+1))+1=i'+(a+1-i) by omega]⟩
end Go.Proofs.YtoaaklhpmhjhkaaGreat
