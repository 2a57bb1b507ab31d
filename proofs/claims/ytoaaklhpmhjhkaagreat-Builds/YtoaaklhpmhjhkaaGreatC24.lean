import Derived.Test.YtoaaklhpmhjhkaaGreatC10
set_option maxRecDepth 100000
set_option maxHeartbeats 4000000
set_option linter.all false
namespace Go.Proofs.YtoaaklhpmhjhkaaGreat
open Go.RowKit
theorem q7o (u i:Nat) (fa:Int) (f:Nat->Bool):Rf.items u [] i fa f=none:=by cases u<;>rfl
theorem q0n (l:List UInt8) (k n:Nat):(l.drop k).drop n=l.drop (k+n):=List.drop_drop
theorem q9C (s:ByteArray) (k:Nat) (m b o:Int) (hm:1<m) (hi:∀c r,s.data.toList.drop k=c::r->Rf.read m b o c.toNat=Rf.inner m b o c.toNat 11):
  (∃(n:Nat) (lo hi:Int),1<=n/\k+n<=s.size/\Pg.readItem (bat s) k=⟨lo,hi,((k+n:Nat):Int),true⟩ /\
   (∀u fa f,Rf.items (u+1) (s.data.toList.drop k) k fa f=Rf.items u (s.data.toList.drop (k+n)) (k+n) (if hi<lo/\fa<0 then (k:Int) else fa) (Pg.withF f lo hi)) /\
   ∃m2 b2,steps m b o ((s.data.toList.drop k).take n)=some (m2,b2)/\((m2=11/\∀c r,s.data.toList.drop (k+n)=c::r->c≠45)\/m2=13)) \/
  (∃n:Nat,(Pg.readItem (bat s) k).ok=false/\(Pg.readItem (bat s) k).n=((k+n:Nat):Int)/\Rf.formFrom m b o k (s.data.toList.drop k)=((k+n:Nat):Int)):=by
 rcases q7h s k with ⟨n,v,h1,h2,h3,h4,h5⟩|⟨n,h1,h2,h3⟩
 ·obtain⟨b1,hst⟩:=h5 m 11 b o hi;have hkn:k+(n+1)<=s.size:=by
   have:(s.data.toList.drop k).length=s.size-k:=by simp
   omega
  obtain⟨c,r,hcr⟩:∃c r,s.data.toList.drop k=c::r:=by
   rcases hd:s.data.toList.drop k with _|⟨c,r⟩
   ·rw[hd]at h3;simp at h3
   ·exact⟨c,r,rfl⟩
  obtain⟨hc93,_,_⟩:=h4 c r hcr;have hsplit:s.data.toList.drop k=(s.data.toList.drop k).take (n+1)++s.data.toList.drop (k+(n+1)):=by
   rw[<-q0n,List.take_append_drop]
  have hlen:((s.data.toList.drop k).take (n+1)).length=n+1:=by rw[List.length_take];omega
  have hone:(Pg.readOne (bat s) k).ok=true:=by rw[h1]
  have hn:(Pg.readOne (bat s) k).n=((k+(n+1):Nat):Int):=by rw[h1]
  have hv:(Pg.readOne (bat s) k).v=v:=by rw[h1]
  by_cases h45:∃r2,s.data.toList.drop (k+(n+1))=45::r2
  ·obtain⟨r2,hr2⟩:=h45;have hb45:bat s ((k+(n+1):Nat):Int)=45:=by rw[q4W hr2];rfl
   have hd1:s.data.toList.drop (k+(n+1)+1)=r2:=by rw[<-q0n,hr2];rfl
   have h12:Rf.read 11 b1 o ((45:UInt8).toNat:Int)=⟨true,12,b1,o⟩:=by rfl
   have hi2:∀c r,s.data.toList.drop (k+(n+1)+1)=c::r->Rf.read 12 b1 o c.toNat=Rf.inner 12 b1 o c.toNat 13:=by
    intro c r _;simp[Rf.read,Rf.rest]
   have hit:Pg.readItem (bat s) k=⟨v,(Pg.readOne (bat s) (((k+(n+1)+1:Nat)):Int)).v,(Pg.readOne (bat s) (((k+(n+1)+1:Nat)):Int)).n,(Pg.readOne (bat s) (((k+(n+1)+1:Nat)):Int)).ok⟩:=by
    rw[Pg.readItem,if_pos hone,hn,if_pos hb45,hv];rw[show(((k+(n+1):Nat):Int)+1)=((k+(n+1)+1:Nat):Int) by omega]
   rcases q7h s (k+(n+1)+1)with ⟨n2,v2,g1,g2,g3,g4,g5⟩|⟨n2,g1,g2,g3⟩
   ·left;obtain⟨b2,hst2⟩:=g5 12 13 b1 o hi2;have hkn2:k+(n+1)+1+(n2+1)<=s.size:=by
     have:(s.data.toList.drop (k+(n+1)+1)).length=s.size-(k+(n+1)+1):=by simp
     omega
    refine⟨n+1+1+(n2+1),v,v2,by omega,by omega,?_,fun u fa f=>?_,13,b2,?_,Or.inr rfl⟩
    ·rw[hit,g1,show k+(n+1)+1+(n2+1)=k+(n+1+1+(n2+1)) by omega]
    ·rw[hcr,Rf.items];simp only[if_neg hc93];rw[<-hcr,h2];simp only[q0n,hr2];rw[if_pos trivial,<-hd1,g2];simp only[q0n];rw[show k+(n+1)+1+(n2+1)=k+(n+1+1+(n2+1)) by omega];rfl
    ·have e1:(s.data.toList.drop k).take (n+1+1+(n2+1))=(s.data.toList.drop k).take (n+1)++(45::(s.data.toList.drop (k+(n+1)+1)).take (n2+1)):=by
      rw[show n+1+1+(n2+1)=(n+1)+(1+(n2+1)) by omega,List.take_add,q0n,hr2,hd1,show 1+(n2+1)=(n2+1)+1 by omega,List.take_succ_cons]
     rw[e1,q2t _ _ _ _ _ _ hst,q0z _ h12 rfl rfl];exact hst2
   ·right;refine⟨n+1+1+n2,by rw[hit];exact g1,by rw[hit];simp only[g2];omega,?_⟩;rw[hsplit,q2E _ _ _ _ _ _ _ hst,hlen,hr2,q1F _ h12 rfl,<-hd1,g3 12 13 b1 o (by omega) hi2];omega
  ·left;have hb45:bat s ((k+(n+1):Nat):Int)≠45:=by
    rcases hd:s.data.toList.drop (k+(n+1))with _|⟨c2,r2⟩
    ·rw[q4W hd];simp[at_]
    ·rw[q4W hd];simp only[at_,List.getElem?_cons_zero];intro e;apply h45;have:c2=45:=UInt8.toNat_inj.1 (by simpa using (by omega:c2.toNat=45));exact⟨r2,by rw[hd,this]⟩
   refine⟨n+1,v,v,by omega,hkn,?_,fun u fa f=>?_,11,b1,hst,Or.inl ⟨rfl,?_⟩⟩
   ·rw[Pg.readItem,if_pos hone,hn,if_neg hb45,hv]
   ·rw[hcr,Rf.items];simp only[if_neg hc93];rw[<-hcr,h2];simp only[q0n];rcases hd:s.data.toList.drop (k+(n+1))with _|⟨c2,r2⟩
    ·rw[q7o]
    ·simp only;rw[if_neg (fun e=>h45 ⟨r2,by rw[hd,e]⟩),if_neg (by omega)];rfl
   ·intro c2 r2 he e;exact h45 ⟨r2,by rw[he,e]⟩
 ·right;refine⟨n,?_,?_,h3 m 11 b o hm hi⟩
  ·rw[Pg.readItem,h1];rfl
  ·rw[Pg.readItem,h1];exact h2
variable {b' : Int}{r : List UInt8}{k n : Nat}{c d : UInt8}
theorem q0T {s:ByteArray} (h:s.data.toList.drop k=c::r):k<s.size:=by
 rcases Nat.lt_or_ge k s.size with h'|h'
 ·exact h'
 ·rw[List.drop_eq_nil_of_le (by simpa using h')]at h;cases h
theorem q3I (l:List UInt8) (k n j:Nat):(l.drop k).take (n+j)=(l.drop k).take n++(l.drop (k+n)).take j:=by
 rw[List.take_add,List.drop_drop]
theorem q5s (s:ByteArray) (first:Nat) (o:Int):∀(u k:Nat) (fa:Int) (f:Nat->Bool) (m b:Int),s.size<u+k->k<=s.size->-1<=fa ->
  ((k=first/\(m=10\/(m=9/\∀c r,s.data.toList.drop k=c::r->c≠94)))\/(first<k/\((m=11/\∀c r,s.data.toList.drop k=c::r->c≠45)\/m=13))) ->
  (∃(j:Nat) (F:Nat->Bool) (FA:Int),k<=j/\j<s.size/\Pg.setLoop (bat s) s.size first u k fa f=⟨(j:Int)+1,true,F,FA⟩/\-1<=FA/\(∀v,s.size<v+k->Rf.items v (s.data.toList.drop k) k fa f=some (j,FA,F))/\∃b',steps m b o ((s.data.toList.drop k).take (j+1-k))=some (1,b')) \/
  ((Pg.setLoop (bat s) s.size first u k fa f).ok=false/\Rf.formFrom m b o k (s.data.toList.drop k)=(Pg.setLoop (bat s) s.size first u k fa f).n):=by
 intro u
 induction u with
 |zero=>intro k fa f m b h1 h2;omega
 |succ u ih=>
  intro k fa f m b hu hk hfa hcase;have hm1:1<m:=by rcases hcase with ⟨_,h|h⟩|⟨_,h|h⟩<;>omega
  rcases hd:s.data.toList.drop k with _|⟨c,r⟩
  ·right;have hks:k=s.size:=by
    have:s.size<=k:=by simpa using hd
    omega
   have hge:¬(k:Int)<(s.size:Int):=by omega
   rw[Pg.setLoop,if_neg hge];refine⟨rfl,?_⟩;rw[q3t _ _ _ _ hm1,hks]
  have hlt:=q0T hd;have hlti:(k:Int)<(s.size:Int):=by omega
  have hbk:bat s (k:Int)=c.toNat:=by rw[q4W hd];rfl
  by_cases h93:c=93/\first<k
  ·left;obtain⟨rfl,hf⟩:=h93;have hm:m=11\/m=13:=by
    rcases hcase with ⟨h,_⟩|⟨_,h|h⟩
    ·omega
    ·exact Or.inl h.1
    ·exact Or.inr h
   refine⟨k,f,fa,Nat.le_refl _,hlt,?_,hfa,fun v hv=>?_,b,?_⟩
   ·rw[Pg.setLoop,if_pos hlti,if_pos ⟨by rw[hbk];rfl,by omega⟩]
   ·rcases v with _|v
    ·omega
    ·rfl
   ·rw[show k+1-k=1 by omega];show steps m b o [93]=_;have hx:Rf.read m b o ((93:UInt8).toNat:Int)=⟨true,1,b,o⟩:=by
     rcases hm with rfl|rfl<;>rfl
    rw[q0z _ hx rfl rfl];rfl
  ·have hi:∀c' r',s.data.toList.drop k=c'::r'->Rf.read m b o c'.toNat=Rf.inner m b o c'.toNat 11:=by
    intro c' r' he;rw[hd]at he;cases he;have ne:∀d:UInt8,c≠d->(c.toNat:Int)≠d.toNat:=fun d h e=>h (UInt8.toNat_inj.1 (by omega))
    rcases hcase with ⟨_,h|⟨h,h2⟩⟩|⟨hf,⟨h,h2⟩|h⟩
    ·subst h;simp[Rf.read,Rf.rest]
    ·subst h;have:=ne 94 (h2 c r hd);have h':(c.toNat:Int)≠94:=this;simp only[Rf.read,Rf.rest];rw[if_neg h'];simp
    ·subst h;have h1:(c.toNat:Int)≠45:=ne 45 (h2 c r hd);have h3:(c.toNat:Int)≠93:=ne 93 (fun e=>h93 ⟨e,hf⟩);simp only[Rf.read,Rf.rest];rw[if_neg h1,if_neg h3];simp
    ·subst h;have h3:(c.toNat:Int)≠93:=ne 93 (fun e=>h93 ⟨e,hf⟩);simp only[Rf.read,Rf.rest];rw[if_neg h3];simp
   have hno:¬(bat s (k:Int)=93/\(first:Int)<k):=by
    rintro ⟨h1,h2⟩;rw[hbk]at h1;exact h93 ⟨UInt8.toNat_inj.1 (by simpa using (by omega:c.toNat=93)),by omega⟩
   have hL:Pg.setLoop (bat s) s.size first (u+1) k fa f=if (Pg.readItem (bat s) k).ok then Pg.setLoop (bat s) s.size first u (Pg.readItem (bat s) k).n (if (Pg.readItem (bat s) k).hi<(Pg.readItem (bat s) k).lo/\fa=-1 then (k:Int) else fa) (Pg.withF f (Pg.readItem (bat s) k).lo (Pg.readItem (bat s) k).hi) else ⟨(Pg.readItem (bat s) k).n,false,f,fa⟩:=by
    rw[Pg.setLoop,if_pos hlti,if_neg hno]
   rcases q9C s k m b o hm1 hi with ⟨n,lo,hi',hn1,hn2,hit,hitems,m2,b2,hst,hm2⟩|⟨n,h1,h2,h3⟩
   ·have hL2:Pg.setLoop (bat s) s.size first (u+1) k fa f=Pg.setLoop (bat s) s.size first u ((k+n:Nat):Int) (if hi'<lo/\fa<0 then (k:Int) else fa) (Pg.withF f lo hi'):=by
     rw[hL,hit];simp only[if_true];have:(fa=-1)<->(fa<0):=by omega
     simp only[this]
    have hfa':-1<=(if hi'<lo/\fa<0 then (k:Int) else fa):=by split<;>omega
    have hcase2:((k+n=first/\(m2=10\/(m2=9/\∀c r,s.data.toList.drop (k+n)=c::r->c≠94)))\/(first<k+n/\((m2=11/\∀c r,s.data.toList.drop (k+n)=c::r->c≠45)\/m2=13))):=by
     right;refine⟨?_,hm2⟩;rcases hcase with ⟨h,_⟩|⟨h,_⟩<;>omega
    rcases ih (k+n) _ (Pg.withF f lo hi') m2 b2 (by omega) hn2 hfa' hcase2 with ⟨j,F,FA,g1,g2,g3,g4,g5,b',g6⟩|⟨g1,g2⟩
    ·left;refine⟨j,F,FA,by omega,g2,by rw[hL2,g3],g4,fun v hv=>?_,b',?_⟩
     ·rcases v with _|v
      ·omega
      ·rw[<-hd,hitems];exact g5 v (by omega)
     ·rw[<-hd,show j+1-k=n+(j+1-(k+n)) by omega,q3I,q2t _ _ _ _ _ _ hst];exact g6
    ·right;refine⟨by rw[hL2];exact g1,?_⟩;have hsp:s.data.toList.drop k=(s.data.toList.drop k).take n++s.data.toList.drop (k+n):=by rw[<-q0n,List.take_append_drop]
     have hlen:((s.data.toList.drop k).take n).length=n:=by rw[List.length_take];simp;omega
     rw[hL2,<-g2,<-hd];rw[hsp,q2E _ _ _ _ _ _ _ hst,hlen]
   ·right;rw[hL,h1];refine⟨rfl,?_⟩;rw[<-hd];simp only[h2];exact h3
theorem q4t (s:ByteArray) (i:Nat) (t:List UInt8) (m b o:Int) (hm:m=0\/m=1) (h:s.data.toList.drop i=91::t):
  (∃(n:Nat) (F:Nat->Bool) (FA:Int),i+2<=n/\n<=s.size/\Pg.readSet (bat s) s.size i=⟨(n:Int),true,F,FA⟩/\Rf.set t i=some (n,FA,F)/\-1<=FA/\∃b',steps m b o ((s.data.toList.drop i).take (n-i))=some (1,b')) \/
  ((Pg.readSet (bat s) s.size i).ok=false/\Rf.formFrom m b o i (s.data.toList.drop i)=(Pg.readSet (bat s) s.size i).n):=by
 have hlt:=q0T h;have h9:Rf.read m b o ((91:UInt8).toNat:Int)=⟨true,9,b,o⟩:=by rcases hm with rfl|rfl<;>rfl
 have hd1:s.data.toList.drop (i+1)=t:=by rw[<-q0n,h];rfl
 by_cases h94:∃r,t=94::r
 ·obtain⟨r,rfl⟩:=h94;have hlt1:=q0T hd1;have hd2:s.data.toList.drop (i+2)=r:=by rw[show i+2=i+1+1 by omega,<-q0n,hd1];rfl
  have hb:bat s ((i:Int)+1)=94:=by rw[y0X h];rfl
  have h10:Rf.read 9 b o ((94:UInt8).toNat:Int)=⟨true,10,b,o⟩:=rfl;have hrl:r.length=s.size-(i+2):=by rw[<-hd2];simp
  have hR:Pg.readSet (bat s) s.size i=⟨(Pg.setLoop (bat s) s.size ((i+2:Nat):Int) (s.size+1) ((i+2:Nat):Int) (-1) (fun _=>false)).n,(Pg.setLoop (bat s) s.size ((i+2:Nat):Int) (s.size+1) ((i+2:Nat):Int) (-1) (fun _=>false)).ok,fun k=>!(Pg.setLoop (bat s) s.size ((i+2:Nat):Int) (s.size+1) ((i+2:Nat):Int) (-1) (fun _=>false)).f k,(Pg.setLoop (bat s) s.size ((i+2:Nat):Int) (s.size+1) ((i+2:Nat):Int) (-1) (fun _=>false)).fa⟩:=by
   rw[Pg.readSet,if_pos hb];rfl
  rcases q5s s (i+2) o (s.size+1) (i+2) (-1) (fun _=>false) 10 b (by omega) (by omega) (by omega) (Or.inl ⟨rfl,Or.inl rfl⟩)with ⟨j,F,FA,g1,g2,g3,g4,g5,b',g6⟩|⟨g1,g2⟩
  ·left;refine⟨j+1,fun k=>!F k,FA,by omega,by omega,by rw[hR,g3];rfl,?_,g4,b',?_⟩
   ·have:=g5 (r.length+1) (by omega);rw[hd2]at this;simp only[Rf.set,if_true,this,Option.map_some];simp
   ·rw[show j+1-i=2+(j+1-(i+2)) by omega,q3I,h];show steps m b o (91::94::((s.data.toList.drop (i+2)).take (j+1-(i+2))))=_;rw[q0z _ h9 rfl rfl,q0z _ h10 rfl rfl];exact g6
  ·right;refine⟨by rw[hR];exact g1,?_⟩;rw[h,q1F _ h9 rfl,q1F _ h10 rfl,hR];simp only[<-g2,hd2]
 ·have hb:bat s ((i:Int)+1)≠94:=by
   rw[y0X h];rcases t with _|⟨c,r⟩
   ·simp[at_]
   ·simp only[at_,List.getElem?_cons_succ,List.getElem?_cons_zero];intro e;exact h94 ⟨r,by rw[show c=94 from UInt8.toNat_inj.1 (by simpa using (by omega:c.toNat=94))]⟩
  have hR:Pg.readSet (bat s) s.size i=Pg.setLoop (bat s) s.size ((i+1:Nat):Int) (s.size+1) ((i+1:Nat):Int) (-1) (fun _=>false):=by
   rw[Pg.readSet,if_neg hb];rfl
  have hne:∀c r,s.data.toList.drop (i+1)=c::r->c≠94:=by
   intro c r he e;exact h94 ⟨r,by rw[<-hd1,he,e]⟩
  rcases q5s s (i+1) o (s.size+1) (i+1) (-1) (fun _=>false) 9 b (by omega) (by omega) (by omega) (Or.inl ⟨rfl,Or.inr ⟨rfl,hne⟩⟩)with ⟨j,F,FA,g1,g2,g3,g4,g5,b',g6⟩|⟨g1,g2⟩
  ·left;refine⟨j+1,F,FA,by omega,by omega,by rw[hR,g3];rfl,?_,g4,b',?_⟩
   ·rcases t with _|⟨c,r⟩
    ·rw[hd1]at g5;have:=g5 (s.size+1) (by omega);rw[q7o]at this;cases this
    ·have hrl:(c::r).length=s.size-(i+1):=by rw[<-hd1];simp
     have:=g5 (r.length+2) (by simp at hrl;omega);rw[hd1]at this;have hc94:=hne c r hd1;simp only[Rf.set,if_neg hc94,this,Option.map_some];simp
   ·rw[show j+1-i=1+(j+1-(i+1)) by omega,q3I,h];show steps m b o (91::((s.data.toList.drop (i+1)).take (j+1-(i+1))))=_;rw[q0z _ h9 rfl rfl];exact g6
  ·right;refine⟨by rw[hR];exact g1,?_⟩;rw[h,q1F _ h9 rfl,hR,<-g2,hd1]
def modeOf (kd:Int):Int:=if Pg.endsPiece kd then 1 else 0
def TokOK (s:ByteArray) (k:Nat) (m b op kd:Int):Prop:=
 ∃(n:Nat) (F:Nat->Bool) (mo fa b':Int),1<=n/\k+n<=s.size/\Pg.readPart (bat s) s.size k kd=⟨((k+n:Nat):Int),true,F,mo,fa⟩ /\
  Rf.formFrom m b op k (s.data.toList.drop k)=Rf.formFrom (modeOf kd) b' (Pg.opens kd op) (k+n) (s.data.toList.drop (k+n)) /\
  (op<=6->Rf.deepFrom m b op k (s.data.toList.drop k)=if 6<Pg.opens kd op then (k:Int) else Rf.deepFrom (modeOf kd) b' (Pg.opens kd op) (k+n) (s.data.toList.drop (k+n))) /\
  -1<=fa /\
  (∃c,∀v,Rf.valueFrom s.data.toList (v+c) k=if fa=-1 then Rf.valueFrom s.data.toList v (k+n) else some fa) /\
  (∃c,∀v,Rf.emptyFrom s.data.toList (v+c) k=if kd=1/\Rf.cntTo F 256=0 then some (k:Int) else Rf.emptyFrom s.data.toList v (k+n))
theorem q1n {s:ByteArray}{m b op m':Int} (hn:k+n<=s.size) (hst:steps m b op ((s.data.toList.drop k).take n)=some (m',b')):
  Rf.formFrom m b op k (s.data.toList.drop k)=Rf.formFrom m' b' op (k+n) (s.data.toList.drop (k+n))/\(op<=6->Rf.deepFrom m b op k (s.data.toList.drop k)=if 6<op then (k:Int) else Rf.deepFrom m' b' op (k+n) (s.data.toList.drop (k+n))):=by
 have hsp:s.data.toList.drop k=(s.data.toList.drop k).take n++s.data.toList.drop (k+n):=by rw[<-q0n,List.take_append_drop]
 have hlen:((s.data.toList.drop k).take n).length=n:=by rw[List.length_take];simp;omega
 constructor
 ·have:=q2E _ _ _ _ _ k (s.data.toList.drop (k+n)) hst;rw[hlen,<-hsp]at this;exact this
 ·intro ho;have:=q5f ho _ _ _ _ _ k (s.data.toList.drop (k+n)) hst;rw[hlen,<-hsp]at this;rw[if_neg (by omega)];exact this
theorem q0G (h:c≠d):(c.toNat:Int)≠(d.toNat:Int):=fun e=>h (UInt8.toNat_inj.1 (by omega))
theorem q8Y (v:Int) (h0:0<=v) (h1:v<256):Rf.cntTo (Pg.withF (fun _=>false) v v) 256≠0:=by
 obtain⟨n,rfl⟩:=Int.eq_ofNat_of_zero_le h0;have:∀(f:Nat->Bool) (k:Nat),f k=true->∀n,k<n->0<Rf.cntTo f n:=by
  intro f k hk n
  induction n with
  |zero=>intro h;omega
  |succ n ih=>
   intro h;unfold Rf.cntTo;by_cases e:k=n
   ·subst e;simp[hk]
   ·have:=ih (by omega);omega
 have:=this (Pg.withF (fun _=>false) (n:Int) (n:Int)) n (by simp[Pg.withF]) 256 (by omega);omega
theorem y2X:Rf.cntTo (fun k=>!(Pg.withF (fun _=>false) 10 10 k)) 256≠0:=by decide +kernel
theorem q1p {l:List UInt8} (hd:l.drop k=c::r) (h1:c≠92) (h2:c≠91) (h3:c≠123) (v:Nat):Rf.valueFrom l (v+1) k=Rf.valueFrom l v (k+1):=by
 rw[Rf.valueFrom,hd];simp only[if_neg h1,if_neg h2,if_neg h3]
theorem q1c {l:List UInt8} (hd:l.drop k=c::r) (h1:c≠92) (h2:c≠91) (v:Nat):Rf.emptyFrom l (v+1) k=Rf.emptyFrom l v (k+1):=by
 rw[Rf.emptyFrom,hd];simp only[if_neg h1,if_neg h2]
theorem y2u (s:ByteArray) (k:Nat) (t:List UInt8) (m b op:Int) (hm:m=0\/m=1) (hd:s.data.toList.drop k=91::t):
  TokOK s k m b op 1\/((Pg.readPart (bat s) s.size k 1).ok=false/\Rf.formFrom m b op k (s.data.toList.drop k)=(Pg.readPart (bat s) s.size k 1).n):=by
 have hb:bat s (k:Int)=91:=by rw[q4W hd];rfl
 have hP:Pg.readPart (bat s) s.size k 1=⟨(Pg.readSet (bat s) s.size k).n,(Pg.readSet (bat s) s.size k).ok,(Pg.readSet (bat s) s.size k).f,0,(Pg.readSet (bat s) s.size k).fa⟩:=by
  rw[Pg.readPart,if_pos rfl,Pg.readPlace,if_pos hb]
 rcases q4t s k t m b op hm hd with ⟨n,F,FA,h1,h2,h3,h4,h5,b',h6⟩|⟨h1,h2⟩
 ·left;obtain⟨g1,g2⟩:=q1n (n:=n-k) (by omega) h6;rw[show k+(n-k)=n by omega]at g1 g2;refine⟨n-k,F,0,FA,b',by omega,by omega,?_,?_,?_,h5,⟨1,fun v=>?_⟩,⟨1,fun v=>?_⟩⟩
  ·rw[hP,h3,show k+(n-k)=n by omega]
  ·rw[show k+(n-k)=n by omega];exact g1
  ·rw[show k+(n-k)=n by omega];exact g2
  ·rw[show k+(n-k)=n by omega,Rf.valueFrom,hd];simp only[h4];by_cases hf:FA=-1
   ·subst hf;simp
   ·simp[hf,show 0<=FA by omega]
  ·rw[show k+(n-k)=n by omega,Rf.emptyFrom,hd];simp[h4]
 ·right;exact⟨by rw[hP];exact h1,by rw[hP];exact h2⟩
theorem y2v (s:ByteArray) (k:Nat) (t:List UInt8) (m b op:Int) (hm:m=0\/m=1) (hd:s.data.toList.drop k=92::t):
  TokOK s k m b op 1\/((Pg.readPart (bat s) s.size k 1).ok=false/\Rf.formFrom m b op k (s.data.toList.drop k)=(Pg.readPart (bat s) s.size k 1).n):=by
 have hb:bat s (k:Int)=92:=by rw[q4W hd];rfl
 have hP:Pg.readPart (bat s) s.size k 1=⟨(Pg.readEscape (bat s) k).n,(Pg.readEscape (bat s) k).ok,Pg.withF (fun _=>false) (Pg.readEscape (bat s) k).v (Pg.readEscape (bat s) k).v,0,-1⟩:=by
  rw[Pg.readPart,if_pos rfl,Pg.readPlace,if_neg (by rw[hb];decide),if_neg (by rw[hb];decide),if_pos hb]
 have h2:Rf.read m b op ((92:UInt8).toNat:Int)=⟨true,2,1,op⟩:=by rcases hm with rfl|rfl<;>rfl
 rcases q3v s k t hd with ⟨n,v,h1,h3,h4,h5⟩|⟨n,h1,h3,h4⟩
 ·left;have hlen:t.length+1=s.size-k:=by
   have:(s.data.toList.drop k).length=s.size-k:=by simp
   rw[hd]at this;simpa using this
  have hst:steps m b op ((s.data.toList.drop k).take (n+1))=some (1,1):=by
   rw[hd,List.take_succ_cons,q0z _ h2 rfl rfl];exact h5 1 op
  have hvb:=Rf.one_bd h3;have hlt:=q0T hd;obtain⟨g1,g2⟩:=q1n (n:=n+1) (by omega) hst;refine⟨n+1,Pg.withF (fun _=>false) v v,0,-1,1,by omega,by omega,by rw[hP,h1],g1,g2,by omega,⟨1,fun v'=>?_⟩,⟨1,fun v'=>?_⟩⟩
  ·rw[Rf.valueFrom,hd];simp only[h3];simp
  ·rw[Rf.emptyFrom,hd];simp only[h3];simp[q8Y v hvb.1 hvb.2.1]
 ·right;refine⟨by rw[hP];exact h1,?_⟩;rw[hP,hd,q1F _ h2 rfl,h4 1 op];exact h3.symm
theorem q2D (s:ByteArray) (k:Nat) (c:UInt8) (r:List UInt8) (m b op kd:Int) (F:Nat->Bool) (x:Rf.RS) (hd:s.data.toList.drop k=c::r) (h92:c≠92) (h91:c≠91) (h123:c≠123)
  (hx:Rf.read m b op c.toNat=x) (hok:x.ok=true) (hxm:x.m=modeOf kd) (hxo:x.o=Pg.opens kd op) (hp:Pg.readPart (bat s) s.size k kd=⟨(k:Int)+1,true,F,0,-1⟩) (hc:¬(kd=1/\Rf.cntTo F 256=0)):TokOK s k m b op kd:=by
 have hlt:=q0T hd;have hd1:s.data.toList.drop (k+1)=r:=by rw[<-q0n,hd];rfl
 refine⟨1,F,0,-1,x.bk,by omega,by omega,by rw[hp];rfl,?_,fun _=>?_,by omega,⟨1,fun v=>?_⟩,⟨1,fun v=>?_⟩⟩
 ·rw[hd,q1F x hx hok,hxm,hxo,hd1]
 ·rw[hd,Rf.deepFrom,hx,hxm,hxo,hd1]
 ·rw[q1p hd h92 h91 h123];simp
 ·rw[q1c hd h92 h91,if_neg hc]
theorem y0g (b o c:Int):Rf.read 5 b o c=⟨Rf.digit c,if Rf.digit c then 6 else 5,b,o⟩:=by simp[Rf.read,Rf.to]
theorem y2A (b o:Int):Rf.read 6 b o 44=⟨true,7,b,o⟩:=by simp[Rf.read]
theorem y2j (b o c:Int) (h:c≠44):Rf.read 6 b o c=⟨c==125,if (c==125)=true then 1 else 6,b,o⟩:=by simp only[Rf.read,Rf.to,if_neg h];rfl
theorem q8C (b o c:Int):Rf.read 7 b o c=⟨Rf.digit c,if Rf.digit c then 8 else 7,b,o⟩:=by simp[Rf.read,Rf.to]
theorem y2i (b o c:Int):Rf.read 8 b o c=⟨c==125,if (c==125)=true then 1 else 8,b,o⟩:=by simp only[Rf.read,Rf.to];rfl
theorem q3y (c:Int) (h:¬Pg.digitValue c<0):Pg.digitValue c=c-48/\48<=c/\c<=57:=by
 unfold Pg.digitValue at h ⊢;split
 ·rename_i h1;exact⟨rfl,h1.1,h1.2⟩
 ·rename_i h1;rw[if_neg h1]at h;omega
def CountAt (t:List UInt8) (n:Nat) (mo le:Int):Prop:=
 (∃x r,t=x::125::r/\n=3/\48<=(x.toNat:Int)/\(x.toNat:Int)<=57/\mo=(x.toNat:Int)-48/\le=(x.toNat:Int)-48) \/
 (∃x z r,t=x::44::z::125::r/\n=5/\48<=(x.toNat:Int)/\(x.toNat:Int)<=57/\48<=(z.toNat:Int)/\(z.toNat:Int)<=57/\mo=(z.toNat:Int)-48/\le=(x.toNat:Int)-48)
theorem q4Q (s:ByteArray) (k:Nat) (t:List UInt8) (b o:Int) (hd:s.data.toList.drop k=123::t):
  (∃(n:Nat) (mo le:Int),Pg.readCount (bat s) k=⟨mo,((k+n:Nat):Int),true⟩/\Pg.digitValue (bat s ((k:Int)+1))=le/\CountAt t n mo le/\steps 1 b o ((123::t).take n)=some (1,b)) \/
  ((Pg.readCount (bat s) k).ok=false/\Rf.formFrom 1 b o k (123::t)=(Pg.readCount (bat s) k).n):=by
 have e1:=y0X hd;have e2:=y3G hd;have e3:=y3F hd;have e4:=y3M hd;have a1:(k:Int)+2+1=(k:Int)+3:=by omega
 have a2:(k:Int)+2+2=(k:Int)+4:=by omega
 have h5:Rf.read 1 b o ((123:UInt8).toNat:Int)=⟨true,5,b,o⟩:=rfl;rcases t with _|⟨x,t⟩
 ·right;have hx:Pg.digitValue (bat s ((k:Int)+1))<0:=by rw[e1];simp[at_,Pg.digitValue]
  rw[Pg.readCount,if_pos hx];refine⟨rfl,?_⟩;rw[q1F _ h5 rfl,q3t _ _ _ _ (by simp)];first|(simp;done)|(simp;omega)|omega
 have e1':bat s ((k:Int)+1)=x.toNat:=by rw[e1];rfl
 by_cases hx:Pg.digitValue x.toNat<0
 ·right;have hx1:Rf.digit x.toNat=false:=by rw[q3x];simp;omega
  rw[Pg.readCount,e1',if_pos hx];refine⟨rfl,?_⟩;rw[q1F _ h5 rfl,q3O _ (y0g b o _) hx1];first|(simp;done)|(simp;omega)|omega
 have hx1:Rf.digit x.toNat=true:=by rw[q3x];simp;omega
 obtain⟨x1,x2,x3⟩:=q3y _ hx;have hC:Pg.readCount (bat s) k=Pg.readMost (bat s) ((k:Int)+2) ((x.toNat:Int)-48):=by rw[Pg.readCount,e1',if_neg hx,x1]
 have hf5:∀r,Rf.formFrom 1 b o k (123::x::r)=Rf.formFrom 6 b o (k+2) r:=fun r=>by
  rw[q1F _ h5 rfl,q1F _ (y0g b o _) hx1];simp only[hx1,if_true]
 have hs5:∀r,steps 1 b o (123::x::r)=steps 6 b o r:=fun r=>by
  rw[q0z _ h5 rfl rfl,q0z _ (y0g b o _) hx1 rfl];simp only[hx1,if_true]
 rcases t with _|⟨y,t⟩
 ·right;have hy:bat s ((k:Int)+2)=-1:=by rw[e2];rfl
  rw[hC,Pg.readMost,hy];refine⟨rfl,?_⟩;rw[hf5,q3t _ _ _ _ (by simp)];first|(simp;done)|(simp;omega)|omega
 have e2':bat s ((k:Int)+2)=y.toNat:=by rw[e2];rfl
 by_cases hy125:y=125
 ·subst hy125;left;refine⟨3,(x.toNat:Int)-48,(x.toNat:Int)-48,?_,by rw[e1',x1],Or.inl ⟨x,t,rfl,rfl,x2,x3,rfl,rfl⟩,?_⟩
  ·rw[hC,Pg.readMost,e2',if_pos (by decide),show(k:Int)+2+1=((k+3:Nat):Int) by omega]
  ·show steps 1 b o [123,x,125]=_;rw[hs5,q0z _ (y2j b o _ (by decide)) (by rfl) rfl];rfl
 have hy125':=q0G hy125;have hy125'':(y.toNat:Int)≠125:=hy125';by_cases hy44:y=44
 ·subst hy44;have h7:Rf.read 6 b o ((44:UInt8).toNat:Int)=⟨true,7,b,o⟩:=y2A b o;have hM:Pg.readCount (bat s) k=if Pg.digitValue (bat s ((k:Int)+3))<0 then ⟨0,(k:Int)+3,false⟩ else if bat s ((k:Int)+4)=125 then ⟨Pg.digitValue (bat s ((k:Int)+3)),(k:Int)+2+3,true⟩ else ⟨0,(k:Int)+4,false⟩:=by
   rw[hC,Pg.readMost,e2',if_neg (by decide),if_pos (by decide),a1,a2]
  rcases t with _|⟨z,t⟩
  ·right;have hz:Pg.digitValue (bat s ((k:Int)+3))<0:=by rw[e3];simp[at_,Pg.digitValue]
   rw[hM,if_pos hz];refine⟨rfl,?_⟩;rw[hf5,q1F _ h7 rfl,q3t _ _ _ _ (by simp)];first|(simp;done)|(simp;omega)|omega
  have e3':bat s ((k:Int)+3)=z.toNat:=by rw[e3];rfl
  by_cases hz:Pg.digitValue z.toNat<0
  ·right;have hz1:Rf.digit z.toNat=false:=by rw[q3x];simp;omega
   rw[hM,e3',if_pos hz];refine⟨rfl,?_⟩;rw[hf5,q1F _ h7 rfl,q3O _ (q8C b o _) hz1];first|(simp;done)|(simp;omega)|omega
  have hz1:Rf.digit z.toNat=true:=by rw[q3x];simp;omega
  obtain⟨z1,z2,z3⟩:=q3y _ hz;rcases t with _|⟨y2,t⟩
  ·right;have hq:bat s ((k:Int)+4)=-1:=by rw[e4];rfl
   rw[hM,e3',if_neg hz,hq,if_neg (by decide)];refine⟨rfl,?_⟩;rw[hf5,q1F _ h7 rfl,q1F _ (q8C b o _) hz1];simp only[hz1,if_true];rw[q3t _ _ _ _ (by simp)];first|(simp;done)|(simp;omega)|omega
  have e4':bat s ((k:Int)+4)=y2.toNat:=by rw[e4];rfl
  by_cases hq:y2=125
  ·subst hq;left;refine⟨5,(z.toNat:Int)-48,(x.toNat:Int)-48,?_,by rw[e1',x1],Or.inr ⟨x,z,t,rfl,rfl,x2,x3,z2,z3,rfl,rfl⟩,?_⟩
   ·rw[hM,e3',if_neg hz,e4',if_pos (by decide),z1,show(k:Int)+2+3=((k+5:Nat):Int) by omega]
   ·show steps 1 b o [123,x,44,z,125]=_;rw[hs5,q0z _ h7 rfl rfl,q0z _ (q8C b o _) hz1 rfl];simp only[hz1,if_true];rw[q0z _ (y2i b o _) (by rfl) rfl];rfl
  ·right;have hq':(y2.toNat:Int)≠125:=q0G hq;rw[hM,e3',if_neg hz,e4',if_neg hq'];refine⟨rfl,?_⟩;rw[hf5,q1F _ h7 rfl,q1F _ (q8C b o _) hz1];simp only[hz1,if_true];rw[q3O _ (y2i b o _) (by simpa using hq')];first|(simp;done)|(simp;omega)|omega
 ·right;have hy44':(y.toNat:Int)≠44:=q0G hy44;rw[hC,Pg.readMost,e2',if_neg hy125'',if_neg hy44'];refine⟨rfl,?_⟩;rw[hf5,q3O _ (y2j b o _ hy44') (by simpa using hy125'')];first|(simp;done)|(simp;omega)|omega
theorem q1K {x:UInt8} (h0:48<=(x.toNat:Int)) (h1:(x.toNat:Int)<=57):x≠92/\x≠91/\x≠123:=by
 refine⟨?_,?_,?_⟩<;>(intro e;subst e;revert h0 h1;decide)
theorem q9Q (s:ByteArray) (k:Nat) (t:List UInt8) (b op:Int) (hd:s.data.toList.drop k=123::t):
  TokOK s k 1 b op 8\/((Pg.readPart (bat s) s.size k 8).ok=false/\Rf.formFrom 1 b op k (s.data.toList.drop k)=(Pg.readPart (bat s) s.size k 8).n):=by
 have hP:Pg.readPart (bat s) s.size k 8=⟨(Pg.readCount (bat s) k).n,(Pg.readCount (bat s) k).ok,fun _=>false,(Pg.readCount (bat s) k).v,Pg.countFalls (bat s) k⟩:=rfl;have hlenk:(s.data.toList.drop k).length=s.size-k:=by simp
 rw[hd]at hlenk;rcases q4Q s k t b op hd with ⟨n,mo,le,h1,h2,h3,h4⟩|⟨h1,h2⟩
 ·left;have hlt:=q0T hd;have hn:1<=n/\k+n<=s.size:=by
   rcases h3 with ⟨x,r,rfl,rfl,_⟩|⟨x,z,r,rfl,rfl,_⟩<;>(simp at hlenk;omega)
  have hF:Pg.countFalls (bat s) k=if mo<le then (k:Int) else -1:=by rw[Pg.countFalls,h1,h2]
  rw[<-hd]at h4;obtain⟨g1,g2⟩:=q1n hn.2 h4;refine⟨n,fun _=>false,mo,if mo<le then (k:Int) else -1,b,hn.1,hn.2,by rw[hP,h1,hF],g1,g2,by split<;>omega,?_,?_⟩
  ·rcases h3 with ⟨x,r,rfl,rfl,x1,x2,rfl,rfl⟩|⟨x,z,r,rfl,rfl,x1,x2,z1,z2,rfl,rfl⟩
   ·have d1:s.data.toList.drop (k+1)=x::125::r:=by rw[<-q0n,hd];rfl
    have d2:s.data.toList.drop (k+2)=125::r:=by rw[<-q0n,hd];rfl
    obtain⟨q1,q2,q3⟩:=q1K x1 x2;refine⟨3,fun v=>?_⟩;have hfa:(if (x.toNat:Int)-48<(x.toNat:Int)-48 then (k:Int) else -1)=-1:=if_neg (by omega);simp only[hfa,if_true];rw[show v+3=v+2+1 by omega,Rf.valueFrom,hd];simp only;rw[if_neg (by decide),if_neg (by decide),if_pos trivial,if_neg (by decide)];rw[show v+2=v+1+1 by omega,q1p d1 q1 q2 q3,q1p d2 (by decide) (by decide) (by decide)]
   ·have d1:s.data.toList.drop (k+1)=x::44::z::125::r:=by rw[<-q0n,hd];rfl
    have d2:s.data.toList.drop (k+2)=44::z::125::r:=by rw[<-q0n,hd];rfl
    have d3:s.data.toList.drop (k+3)=z::125::r:=by rw[<-q0n,hd];rfl
    have d4:s.data.toList.drop (k+4)=125::r:=by rw[<-q0n,hd];rfl
    obtain⟨q1,q2,q3⟩:=q1K x1 x2;obtain⟨p1,p2,p3⟩:=q1K z1 z2;refine⟨5,fun v=>?_⟩;rw[show v+5=v+4+1 by omega,Rf.valueFrom,hd];simp only;rw[if_neg (by decide),if_neg (by decide),if_pos trivial,if_pos trivial];by_cases hlt2:z.toNat<x.toNat
    ·have hfa:(if (z.toNat:Int)-48<(x.toNat:Int)-48 then (k:Int) else -1)=k:=if_pos (by omega);rw[if_pos hlt2,hfa,if_neg (by omega)]
    ·have hfa:(if (z.toNat:Int)-48<(x.toNat:Int)-48 then (k:Int) else -1)=-1:=if_neg (by omega);rw[if_neg hlt2];simp only[hfa,if_true];rw[show v+4=v+3+1 by omega,q1p d1 q1 q2 q3,show v+3=v+2+1 by omega,q1p d2 (by decide) (by decide) (by decide),show v+2=v+1+1 by omega,q1p d3 p1 p2 p3,q1p d4 (by decide) (by decide) (by decide)]
  ·rcases h3 with ⟨x,r,rfl,rfl,x1,x2,rfl,rfl⟩|⟨x,z,r,rfl,rfl,x1,x2,z1,z2,rfl,rfl⟩
   ·have d1:s.data.toList.drop (k+1)=x::125::r:=by rw[<-q0n,hd];rfl
    have d2:s.data.toList.drop (k+2)=125::r:=by rw[<-q0n,hd];rfl
    obtain⟨q1,q2,q3⟩:=q1K x1 x2;refine⟨3,fun v=>?_⟩;rw[if_neg (by omega),show v+3=v+2+1 by omega,q1c hd (by decide) (by decide),show v+2=v+1+1 by omega,q1c d1 q1 q2,q1c d2 (by decide) (by decide)]
   ·have d1:s.data.toList.drop (k+1)=x::44::z::125::r:=by rw[<-q0n,hd];rfl
    have d2:s.data.toList.drop (k+2)=44::z::125::r:=by rw[<-q0n,hd];rfl
    have d3:s.data.toList.drop (k+3)=z::125::r:=by rw[<-q0n,hd];rfl
    have d4:s.data.toList.drop (k+4)=125::r:=by rw[<-q0n,hd];rfl
    obtain⟨q1,q2,q3⟩:=q1K x1 x2;obtain⟨p1,p2,p3⟩:=q1K z1 z2;refine⟨5,fun v=>?_⟩;rw[if_neg (by omega),show v+5=v+4+1 by omega,q1c hd (by decide) (by decide),show v+4=v+3+1 by omega,q1c d1 q1 q2,show v+3=v+2+1 by omega,q1c d2 (by decide) (by decide),show v+2=v+1+1 by omega,q1c d3 p1 p2,q1c d4 (by decide) (by decide)]
 ·right;refine⟨by rw[hP];exact h1,?_⟩;rw[hP,hd];exact h2
theorem y1o {m:Int} (b o c:Int) (hm:m=0\/m=1):Rf.read m b o c=Rf.outside m b o c:=by
 rcases hm with rfl|rfl<;>simp[Rf.read,Rf.rest]
def Tok (s:ByteArray) (k:Nat) (m b op before:Int):Prop:=
 (Pg.canStand (Pg.kindOf (bat s k)) before op=false/\Rf.formFrom m b op k (s.data.toList.drop k)=(k:Int)) \/
 (Pg.canStand (Pg.kindOf (bat s k)) before op=true/\(TokOK s k m b op (Pg.kindOf (bat s k)) \/
  ((Pg.readPart (bat s) s.size k (Pg.kindOf (bat s k))).ok=false/\Rf.formFrom m b op k (s.data.toList.drop k)=(Pg.readPart (bat s) s.size k (Pg.kindOf (bat s k))).n)))
theorem token (s:ByteArray) (k:Nat) (c:UInt8) (r:List UInt8) (m b op before:Int) (hd:s.data.toList.drop k=c::r) (hmb:m=modeOf before):Tok s k m b op before:=by
 have hm:m=0\/m=1:=by rw[hmb,modeOf];split<;>simp
 have hb:bat s (k:Int)=c.toNat:=by rw[q4W hd];rfl
 have hread:Rf.read m b op c.toNat=Rf.outside m b op c.toNat:=y1o _ _ _ hm;have hother:∀kd:Int,kd≠1->kd≠8->Pg.readPart (bat s) s.size k kd=⟨(k:Int)+1,true,fun _=>false,0,-1⟩:=fun kd h1 h8=>by rw[Pg.readPart,if_neg h1,if_neg h8]
 unfold Tok;rw[hb];by_cases e91:c=91
 ·subst e91;right;exact⟨rfl,y2u s k r m b op hm hd⟩
 by_cases e92:c=92
 ·subst e92;right;exact⟨rfl,y2v s k r m b op hm hd⟩
 by_cases e123:c=123
 ·subst e123;cases hep:Pg.endsPiece before
  ·left;have hm0:m=0:=by rw[hmb,modeOf,hep];rfl
   subst hm0;refine⟨?_,?_⟩
   ·show Pg.canStand 8 before op=false;simp[Pg.canStand,Pg.isSuffix,hep]
   ·rw[hd,q3O _ hread rfl]
  ·right;have hm1:m=1:=by rw[hmb,modeOf,hep];rfl
   subst hm1;refine⟨?_,q9Q s k r b op hd⟩;show Pg.canStand 8 before op=true;simp[Pg.canStand,Pg.isSuffix,hep]
 by_cases e40:c=40
 ·subst e40;right;refine⟨rfl,Or.inl (q2D s k 40 r m b op 2 (fun _=>false) ⟨true,0,b,op+1⟩ hd e92 e91 e123 ?_ rfl rfl rfl (hother 2 (by decide) (by decide)) (by omega))⟩;rw[hread];rfl
 by_cases e41:c=41
 ·subst e41;by_cases hop:0<op
  ·right;refine⟨?_,Or.inl (q2D s k 41 r m b op 3 (fun _=>false) ⟨true,1,b,op-1⟩ hd e92 e91 e123 ?_ rfl rfl rfl (hother 3 (by decide) (by decide)) (by omega))⟩
   ·show Pg.canStand 3 before op=true;simp[Pg.canStand,hop]
   ·rw[hread];show Rf.to m b (op-1) (decide (1<=op)) 1=_;have:decide (1<=op)=true:=by simp;omega
    rw[this];rfl
  ·left;refine⟨?_,?_⟩
   ·show Pg.canStand 3 before op=false;simp[Pg.canStand];omega
   ·rw[hd,q3O (Rf.to m b (op-1) (decide (1<=op)) 1) (by rw[hread];rfl) (by simp[Rf.to];omega)]
 by_cases e124:c=124
 ·subst e124;right;refine⟨rfl,Or.inl (q2D s k 124 r m b op 4 (fun _=>false) ⟨true,0,b,op⟩ hd e92 e91 e123 ?_ rfl rfl rfl (hother 4 (by decide) (by decide)) (by omega))⟩;rw[hread];rfl
 by_cases esuf:c=42\/c=43\/c=63
 ·have hsuf:∀kd:Int,Pg.kindOf c.toNat=kd->Pg.isSuffix kd=true->kd≠0->kd≠3->kd≠1->kd≠8->Pg.opens kd op=op->modeOf kd=1->Rf.outside m b op c.toNat=⟨m==1,m,b,op⟩ ->
    (Pg.canStand (Pg.kindOf c.toNat) before op=false/\Rf.formFrom m b op k (s.data.toList.drop k)=(k:Int))\/(Pg.canStand (Pg.kindOf c.toNat) before op=true/\(TokOK s k m b op (Pg.kindOf c.toNat)\/((Pg.readPart (bat s) s.size k (Pg.kindOf c.toNat)).ok=false/\Rf.formFrom m b op k (s.data.toList.drop k)=(Pg.readPart (bat s) s.size k (Pg.kindOf c.toNat)).n))):=by
   intro kd hkd hs0 n0 n3 n1 n8 hopn hmode hout;rw[hkd];have hcs:Pg.canStand kd before op=Pg.endsPiece before:=by simp[Pg.canStand,n0,n3,hs0]
   cases hep:Pg.endsPiece before
   ·left;have hm0:m=0:=by rw[hmb,modeOf,hep];rfl
    subst hm0;exact⟨by rw[hcs,hep],by rw[hd,q3O _ (by rw[hread,hout]) rfl]⟩
   ·right;have hm1:m=1:=by rw[hmb,modeOf,hep];rfl
    subst hm1;exact⟨by rw[hcs,hep],Or.inl (q2D s k c r 1 b op kd (fun _=>false) ⟨true,1,b,op⟩ hd e92 e91 e123 (by rw[hread,hout];rfl) rfl hmode.symm hopn.symm (hother kd n1 n8) (fun h=>n1 h.1))⟩
  rcases esuf with rfl|rfl|rfl
  ·exact hsuf 5 rfl rfl (by decide) (by decide) (by decide) (by decide) rfl rfl rfl
  ·exact hsuf 6 rfl rfl (by decide) (by decide) (by decide) (by decide) rfl rfl rfl
  ·exact hsuf 7 rfl rfl (by decide) (by decide) (by decide) (by decide) rfl rfl rfl
 by_cases ewr:c=93\/c=125
 ·left;rcases ewr with rfl|rfl
  ·exact⟨rfl,by rw[hd,q3O _ hread rfl]⟩
  ·exact⟨rfl,by rw[hd,q3O _ hread rfl]⟩
 have n91:(c.toNat:Int)≠91:=q0G e91;have n92:(c.toNat:Int)≠92:=q0G e92;have n123:(c.toNat:Int)≠123:=q0G e123;have n40:(c.toNat:Int)≠40:=q0G e40;have n41:(c.toNat:Int)≠41:=q0G e41;have n124:(c.toNat:Int)≠124:=q0G e124;have n42:(c.toNat:Int)≠42:=q0G (fun e=>esuf (Or.inl e));have n43:(c.toNat:Int)≠43:=q0G (fun e=>esuf (Or.inr (Or.inl e)));have n63:(c.toNat:Int)≠63:=q0G (fun e=>esuf (Or.inr (Or.inr e)));have n93:(c.toNat:Int)≠93:=q0G (fun e=>ewr (Or.inl e));have n125:(c.toNat:Int)≠125:=q0G (fun e=>ewr (Or.inr e));have hk1:Pg.kindOf c.toNat=1:=by
  unfold Pg.kindOf;rw[if_neg (by omega),if_neg n40,if_neg n41,if_neg n124,if_neg n42,if_neg n43,if_neg n63,if_neg n123]
 have hout:Rf.outside m b op c.toNat=⟨true,1,b,op⟩:=by
  unfold Rf.outside;rw[if_neg n92,if_neg n91,if_neg n40,if_neg n41,if_neg n124,if_neg (by omega),if_neg n123,if_neg (by omega)]
 right;rw[hk1];refine⟨rfl,Or.inl ?_⟩;by_cases e46:(c.toNat:Int)=46
 ·refine q2D s k c r m b op 1 (fun k=>!(Pg.withF (fun _=>false) 10 10 k)) ⟨true,1,b,op⟩ hd e92 e91 e123 (by rw[hread,hout]) rfl rfl rfl ?_ (fun h=>y2X h.2);rw[Pg.readPart,if_pos rfl,Pg.readPlace,hb,if_neg n91,if_pos e46]
 ·have hbd:=q4V c;refine q2D s k c r m b op 1 (Pg.withF (fun _=>false) c.toNat c.toNat) ⟨true,1,b,op⟩ hd e92 e91 e123 (by rw[hread,hout]) rfl rfl rfl ?_ (fun h=>q8Y c.toNat (by omega) hbd h.2);rw[Pg.readPart,if_pos rfl,Pg.readPlace,hb,if_neg n91,if_neg e46,if_neg n92]
theorem q5h (g:Int->Int) (len first:Int) (hg:∀j,-1<=g j/\g j<256) (hl:0<=len):∀(u:Nat) (e fa:Int) (f:Nat->Bool),0<=e->0<=(Pg.setLoop g len first u e fa f).n:=by
 intro u
 induction u with
 |zero=>intro e fa f h;exact h
 |succ u ih=>
  intro e fa f h;have hi:=Pg.readItem_bd g e hg;unfold Pg.setLoop;split
  ·split
   ·simp;omega
   ·split
    ·exact ih _ _ _ (by omega)
    ·simp;omega
  ·exact hl
theorem q7P (g:Int->Int) (len i kd:Int) (hg:∀j,-1<=g j/\g j<256) (hl:0<=len) (h:0<=i):0<=(Pg.readPart g len i kd).n:=by
 have he:=Pg.readEscape_bd g i hg;unfold Pg.readPart;split
 ·simp only;unfold Pg.readPlace;split
  ·unfold Pg.readSet;split
   ·exact q5h g len _ hg hl _ _ _ _ (by omega)
   ·exact q5h g len _ hg hl _ _ _ _ (by omega)
  ·split
   ·simp;omega
   ·split
    ·simp;omega
    ·simp;omega
 ·split
  ·simp only;unfold Pg.readCount Pg.readMost
   repeat' split
   all_goals (simp;omega)
  ·simp;omega
theorem q4A (s:ByteArray):∀(u k:Nat) (bf op b:Int) (acc:List Pg.Pt),s.size<u+k->k<=s.size->0<=op ->
  ((Pg.partsFrom (bat s) s.size u bf op k acc).ok=false/\Rf.formFrom (modeOf bf) b op k (s.data.toList.drop k)=(Pg.partsFrom (bat s) s.size u bf op k acc).n/\0<=(Pg.partsFrom (bat s) s.size u bf op k acc).n) \/
  (∃ps,(Pg.partsFrom (bat s) s.size u bf op k acc).ok=true/\(Pg.partsFrom (bat s) s.size u bf op k acc).ps=acc++ps/\Rf.formFrom (modeOf bf) b op k (s.data.toList.drop k)=-1 /\
   (op<=6->Rf.deepFrom (modeOf bf) b op k (s.data.toList.drop k)=Pg.tooDeep ps op) /\
   (∃c,∀v,Rf.valueFrom s.data.toList (v+c) k=some (Pg.falling ps))/\(∃c,∀v,Rf.emptyFrom s.data.toList (v+c) k=some (Pg.matchless ps))/\(∀p∈ps,0<=p.pl/\-1<=p.fa)):=by
 intro u
 induction u with
 |zero=>intro k bf op b acc h1 h2;omega
 |succ u ih=>
  intro k bf op b acc hu hk hop;rcases hd:s.data.toList.drop k with _|⟨c,r⟩
  ·have hks:k=s.size:=by
    have:s.size<=k:=by simpa using hd
    omega
   have hge:¬(k:Int)<(s.size:Int):=by omega
   rw[Pg.partsFrom,if_neg hge];have hmode:modeOf bf=0\/modeOf bf=1:=by unfold modeOf;split<;>simp
   by_cases h0:op=0
   ·right;subst h0;refine⟨[],rfl,by simp,?_,fun _=>rfl,⟨1,fun v=>?_⟩,⟨1,fun v=>?_⟩,by simp⟩
    ·rw[Rf.formFrom,if_neg (by omega)]
    ·rw[Rf.valueFrom,hd];rfl
    ·rw[Rf.emptyFrom,hd];rfl
   ·left;refine⟨by simpa using h0,?_,by simp⟩;rw[Rf.formFrom,if_pos (by omega)]
  ·have hlt:=q0T hd;have hlti:(k:Int)<(s.size:Int):=by omega
   have ht:=token s k c r (modeOf bf) b op bf hd rfl;rw[Pg.partsFrom,if_pos hlti];unfold Tok at ht;rw[hd]at ht;rcases ht with ⟨h1,h2⟩|⟨h1,h2|⟨h2,h3⟩⟩
   ·left;rw[h1];exact⟨rfl,h2,by simp⟩
   ·obtain⟨n,F,mo,fa,b',hn1,hn2,hp,hform,hdeep,hfa,⟨cv,hval⟩,⟨ce,hemp⟩⟩:=h2;rw[h1,hp];simp only[if_true];rw[hd]at hform hdeep;have hop':0<=Pg.opens (Pg.kindOf (bat s k)) op:=by
     unfold Pg.opens;split
     ·omega
     ·split
      ·rename_i h3;rw[h3]at h1;simp[Pg.canStand]at h1;omega
      ·exact hop
    generalize Pg.kindOf (bat s k)=kd at *;rcases ih (k+n) kd (Pg.opens kd op) b' (acc++[⟨kd,k,F,0,mo,fa⟩]) (by omega) hn2 hop' with ⟨g1,g2,g3⟩|⟨ps,g1,g2,g3,g4,⟨cv2,g5⟩,⟨ce2,g6⟩,g7⟩
    ·left;exact⟨g1,by rw[hform];exact g2,g3⟩
    ·right;refine⟨⟨kd,k,F,0,mo,fa⟩::ps,g1,by rw[g2];simp,by rw[hform];exact g3,fun ho=>?_,?_,?_,?_⟩
     ·rw[hdeep ho,Pg.tooDeep];by_cases h6:6<Pg.opens kd op
      ·rw[if_pos h6,if_pos h6]
      ·rw[if_neg h6,if_neg h6];exact g4 (by omega)
     ·refine⟨cv2+cv,fun v=>?_⟩;rw[show v+(cv2+cv)=(v+cv2)+cv by omega,hval,Pg.falling];by_cases hf:fa=-1
      ·rw[if_pos hf,if_pos hf];exact g5 v
      ·rw[if_neg hf,if_neg hf]
     ·refine⟨ce2+ce,fun v=>?_⟩;rw[show v+(ce2+ce)=(v+ce2)+ce by omega,hemp,Pg.matchless];by_cases hf:kd=1/\Rf.cntTo F 256=0
      ·rw[if_pos hf,if_pos hf]
      ·rw[if_neg hf,if_neg hf];exact g6 v
     ·intro p hp2;rcases List.mem_cons.1 hp2 with h|h
      ·subst h;exact⟨by simp,hfa⟩
      ·exact g7 p h
   ·left;rw[h1];simp only[if_true];rw[h2];refine⟨rfl,h3,?_⟩;exact q7P _ _ _ _ (q7B s) (by omega) (by omega)
end Go.Proofs.YtoaaklhpmhjhkaaGreat
