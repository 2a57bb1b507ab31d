import Derived.Test.YtoaaklhpmhjhkabGreatC03
set_option maxRecDepth 100000
set_option maxHeartbeats 4000000
set_option linter.all false
namespace Go.Proofs.YtoaaklhpmhjhkabGreat
open Go.RowKit
def XF (kd:Int):Int:=if Pg.endsPiece kd then 1 else 0
def Pj (s:ByteArray) (k:Nat) (m b op kd:Int):Prop:=
 ∃(n:Nat) (F:Nat->Bool) (mo fa b':Int),1<=n/\k+n<=s.size/\Pg.readPart (Y5 s) s.size k kd=⟨((k+n:Nat):Int),true,F,mo,fa⟩ /\
  Rf.formFrom m b op k (s.data.toList.drop k)=Rf.formFrom (XF kd) b' (Pg.opens kd op) (k+n) (s.data.toList.drop (k+n)) /\
  (op<=6->Rf.deepFrom m b op k (s.data.toList.drop k)=if 6<Pg.opens kd op then (k:Int) else Rf.deepFrom (XF kd) b' (Pg.opens kd op) (k+n) (s.data.toList.drop (k+n))) /\
  -1<=fa /\
  (∃c,∀v,Rf.valueFrom s.data.toList (v+c) k=if fa=-1 then Rf.valueFrom s.data.toList v (k+n) else some fa) /\
  (∃c,∀v,Rf.emptyFrom s.data.toList (v+c) k=if kd=1/\Rf.cntTo F 256=0 then some (k:Int) else Rf.emptyFrom s.data.toList v (k+n))
variable {s:ByteArray}{b' m':Int}{r:List UInt8}{g i k n:Nat}{F:N_}{c:UInt8}
theorem Xs {m b op:Int} (hn:k+n<=s.size) (hst:Yk m b op ((s.data.toList.drop k).take n)=some (m',b')):
  Rf.formFrom m b op k (s.data.toList.drop k)=Rf.formFrom m' b' op (k+n) (s.data.toList.drop (k+n))/\(op<=6->Rf.deepFrom m b op k (s.data.toList.drop k)=if 6<op then (k:Int) else Rf.deepFrom m' b' op (k+n) (s.data.toList.drop (k+n))):=by
 have hsp:s.data.toList.drop k=(s.data.toList.drop k).take n++s.data.toList.drop (k+n):=by rw[<-YW,List.take_append_drop]
 have hlen:((s.data.toList.drop k).take n).length=n:=by rw[List.length_take];simp;omega
 constructor
 ·have:=V9 _ _ _ _ _ k (s.data.toList.drop (k+n)) hst;rw[hlen,<-hsp]at this;exact this
 ·intro ho;have:=TU ho _ _ _ _ _ k (s.data.toList.drop (k+n)) hst;rw[hlen,<-hsp]at this;rw[if_neg (by omega)];exact this
theorem YA {d:UInt8} (h:c≠d):(c.toNat:Int)≠(d.toNat:Int):=fun e=>h (UInt8.toNat_inj.1 (by omega))
theorem Nc (v:Int) (h0:0<=v) (h1:v<256):Rf.cntTo (Pg.withF (fun _=>false) v v) 256≠0:=by
 obtain⟨n,rfl⟩:=Int.eq_ofNat_of_zero_le h0;have:∀(f:Nat->Bool) (k:Nat),f k=true->∀n,k<n->0<Rf.cntTo f n:=by
  intro f k hk n
  induction n with
  |zero=>intro h;omega
  |succ n ih=>
   intro h;unfold Rf.cntTo;by_cases e:k=n
   ·subst e;simp[hk]
   ·have:=ih (by omega);omega
 have:=this (Pg.withF (fun _=>false) (n:Int) (n:Int)) n (by simp[Pg.withF]) 256 (by omega);omega
theorem GW:Rf.cntTo (fun k=>!(Pg.withF (fun _=>false) 10 10 k)) 256≠0:=by decide +kernel
theorem Xv {l:List UInt8} (hd:l.drop k=c::r) (h1:c≠92) (h2:c≠91) (h3:c≠123) (v:Nat):Rf.valueFrom l (v+1) k=Rf.valueFrom l v (k+1):=by
 rw[Rf.valueFrom,hd];simp only[if_neg h1,if_neg h2,if_neg h3]
theorem XJ {l:List UInt8} (hd:l.drop k=c::r) (h1:c≠92) (h2:c≠91) (v:Nat):Rf.emptyFrom l (v+1) k=Rf.emptyFrom l v (k+1):=by
 rw[Rf.emptyFrom,hd];simp only[if_neg h1,if_neg h2]
theorem Iq (s:ByteArray) (k:Nat) (t:List UInt8) (m b op:Int) (hm:m=0\/m=1) (hd:s.data.toList.drop k=91::t):
  Pj s k m b op 1\/((Pg.readPart (Y5 s) s.size k 1).ok=false/\Rf.formFrom m b op k (s.data.toList.drop k)=(Pg.readPart (Y5 s) s.size k 1).n):=by
 have hb:Y5 s (k:Int)=91:=by rw[UF hd];rfl
 have hP:Pg.readPart (Y5 s) s.size k 1=⟨(Pg.readSet (Y5 s) s.size k).n,(Pg.readSet (Y5 s) s.size k).ok,(Pg.readSet (Y5 s) s.size k).f,0,(Pg.readSet (Y5 s) s.size k).fa⟩:=by
  rw[Pg.readPart,if_pos rfl,Pg.readPlace,if_pos hb]
 rcases Sz s k t m b op hm hd with ⟨n,F,FA,h1,h2,h3,h4,h5,b',h6⟩|⟨h1,h2⟩
 ·left;obtain⟨g1,g2⟩:=Xs (n:=n-k) (by omega) h6;rw[show k+(n-k)=n by omega]at g1 g2;refine⟨n-k,F,0,FA,b',by omega,by omega,?_,?_,?_,h5,⟨1,fun v=>?_⟩,⟨1,fun v=>?_⟩⟩
  ·rw[hP,h3,show k+(n-k)=n by omega]
  ·rw[show k+(n-k)=n by omega];exact g1
  ·rw[show k+(n-k)=n by omega];exact g2
  ·rw[show k+(n-k)=n by omega,Rf.valueFrom,hd];simp only[h4];by_cases hf:FA=-1
   ·subst hf;simp
   ·simp[hf,show 0<=FA by omega]
  ·rw[show k+(n-k)=n by omega,Rf.emptyFrom,hd];simp[h4]
 ·right;exact⟨by rw[hP];exact h1,by rw[hP];exact h2⟩
theorem Ip (s:ByteArray) (k:Nat) (t:List UInt8) (m b op:Int) (hm:m=0\/m=1) (hd:s.data.toList.drop k=92::t):
  Pj s k m b op 1\/((Pg.readPart (Y5 s) s.size k 1).ok=false/\Rf.formFrom m b op k (s.data.toList.drop k)=(Pg.readPart (Y5 s) s.size k 1).n):=by
 have hb:Y5 s (k:Int)=92:=by rw[UF hd];rfl
 have hP:Pg.readPart (Y5 s) s.size k 1=⟨(Pg.readEscape (Y5 s) k).n,(Pg.readEscape (Y5 s) k).ok,Pg.withF (fun _=>false) (Pg.readEscape (Y5 s) k).v (Pg.readEscape (Y5 s) k).v,0,-1⟩:=by
  rw[Pg.readPart,if_pos rfl,Pg.readPlace,if_neg (by rw[hb];decide),if_neg (by rw[hb];decide),if_pos hb]
 have h2:Rf.read m b op ((92:UInt8).toNat:Int)=⟨true,2,1,op⟩:=by rcases hm with rfl|rfl<;>rfl
 rcases Uk s k t hd with ⟨n,v,h1,h3,h4,h5⟩|⟨n,h1,h3,h4⟩
 ·left;have hlen:t.length+1=s.size-k:=by
   have:(s.data.toList.drop k).length=s.size-k:=by simp
   rw[hd]at this;simpa using this
  have hst:Yk m b op ((s.data.toList.drop k).take (n+1))=some (1,1):=by
   rw[hd,List.take_succ_cons,YG _ h2 rfl rfl];exact h5 1 op
  have hvb:=Rf.one_bd h3;have hlt:=XY hd;obtain⟨g1,g2⟩:=Xs (n:=n+1) (by omega) hst;refine⟨n+1,Pg.withF (fun _=>false) v v,0,-1,1,by omega,by omega,by rw[hP,h1],g1,g2,by omega,⟨1,fun v'=>?_⟩,⟨1,fun v'=>?_⟩⟩
  ·rw[Rf.valueFrom,hd];simp only[h3];simp
  ·rw[Rf.emptyFrom,hd];simp only[h3];simp[Nc v hvb.1 hvb.2.1]
 ·right;refine⟨by rw[hP];exact h1,?_⟩;rw[hP,hd,XD _ h2 rfl,h4 1 op];exact h3.symm
theorem Vu (s:ByteArray) (k:Nat) (c:UInt8) (r:List UInt8) (m b op kd:Int) (F:Nat->Bool) (x:Rf.RS) (hd:s.data.toList.drop k=c::r) (h92:c≠92) (h91:c≠91) (h123:c≠123)
  (hx:Rf.read m b op c.toNat=x) (hok:x.ok=true) (hxm:x.m=XF kd) (hxo:x.o=Pg.opens kd op) (hp:Pg.readPart (Y5 s) s.size k kd=⟨(k:Int)+1,true,F,0,-1⟩) (hc:¬(kd=1/\Rf.cntTo F 256=0)):Pj s k m b op kd:=by
 have hlt:=XY hd;have hd1:s.data.toList.drop (k+1)=r:=by rw[<-YW,hd];rfl
 refine⟨1,F,0,-1,x.bk,by omega,by omega,by rw[hp];rfl,?_,fun _=>?_,by omega,⟨1,fun v=>?_⟩,⟨1,fun v=>?_⟩⟩
 ·rw[hd,XD x hx hok,hxm,hxo,hd1]
 ·rw[hd,Rf.deepFrom,hx,hxm,hxo,hd1]
 ·rw[Xv hd h92 h91 h123];simp
 ·rw[XJ hd h92 h91,if_neg hc]
theorem MG (b o c:Int):Rf.read 5 b o c=⟨Rf.digit c,if Rf.digit c then 6 else 5,b,o⟩:=by simp[Rf.read,Rf.to]
theorem Ij (b o:Int):Rf.read 6 b o 44=⟨true,7,b,o⟩:=by simp[Rf.read]
theorem JB (b o c:Int) (h:c≠44):Rf.read 6 b o c=⟨c==125,if (c==125)=true then 1 else 6,b,o⟩:=by simp only[Rf.read,Rf.to,if_neg h];rfl
theorem O5 (b o c:Int):Rf.read 7 b o c=⟨Rf.digit c,if Rf.digit c then 8 else 7,b,o⟩:=by simp[Rf.read,Rf.to]
theorem JC (b o c:Int):Rf.read 8 b o c=⟨c==125,if (c==125)=true then 1 else 8,b,o⟩:=by simp only[Rf.read,Rf.to];rfl
theorem Ua (c:Int) (h:¬Pg.digitValue c<0):Pg.digitValue c=c-48/\48<=c/\c<=57:=by
 unfold Pg.digitValue at h ⊢;split
 ·rename_i h1;exact⟨rfl,h1.1,h1.2⟩
 ·rename_i h1;rw[if_neg h1]at h;omega
def GK (t:List UInt8) (n:Nat) (mo le:Int):Prop:=
 (∃x r,t=x::125::r/\n=3/\48<=(x.toNat:Int)/\(x.toNat:Int)<=57/\mo=(x.toNat:Int)-48/\le=(x.toNat:Int)-48) \/
 (∃x z r,t=x::44::z::125::r/\n=5/\48<=(x.toNat:Int)/\(x.toNat:Int)<=57/\48<=(z.toNat:Int)/\(z.toNat:Int)<=57/\mo=(z.toNat:Int)-48/\le=(x.toNat:Int)-48)
theorem RT (s:ByteArray) (k:Nat) (t:List UInt8) (b o:Int) (hd:s.data.toList.drop k=123::t):
  (∃(n:Nat) (mo le:Int),Pg.readCount (Y5 s) k=⟨mo,((k+n:Nat):Int),true⟩/\Pg.digitValue (Y5 s ((k:Int)+1))=le/\GK t n mo le/\Yk 1 b o ((123::t).take n)=some (1,b)) \/
  ((Pg.readCount (Y5 s) k).ok=false/\Rf.formFrom 1 b o k (123::t)=(Pg.readCount (Y5 s) k).n):=by
 have e1:=M5 hd;have e2:=GD hd;have e3:=GE hd;have e4:=FF hd;have a1:(k:Int)+2+1=(k:Int)+3:=by omega
 have a2:(k:Int)+2+2=(k:Int)+4:=by omega
 have h5:Rf.read 1 b o ((123:UInt8).toNat:Int)=⟨true,5,b,o⟩:=rfl;rcases t with _|⟨x,t⟩
 ·right;have hx:Pg.digitValue (Y5 s ((k:Int)+1))<0:=by rw[e1];simp[at_,Pg.digitValue]
  rw[Pg.readCount,if_pos hx];refine⟨rfl,?_⟩;rw[XD _ h5 rfl,U9 _ _ _ _ (by simp)];first|(simp;done)|(simp;omega)|omega
 have e1':Y5 s ((k:Int)+1)=x.toNat:=by rw[e1];rfl
 by_cases hx:Pg.digitValue x.toNat<0
 ·right;have hx1:Rf.digit x.toNat=false:=by rw[Uj];simp;omega
  rw[Pg.readCount,e1',if_pos hx];refine⟨rfl,?_⟩;rw[XD _ h5 rfl,Vn _ (MG b o _) hx1];first|(simp;done)|(simp;omega)|omega
 have hx1:Rf.digit x.toNat=true:=by rw[Uj];simp;omega
 obtain⟨x1,x2,x3⟩:=Ua _ hx;have hC:Pg.readCount (Y5 s) k=Pg.readMost (Y5 s) ((k:Int)+2) ((x.toNat:Int)-48):=by rw[Pg.readCount,e1',if_neg hx,x1]
 have hf5:∀r,Rf.formFrom 1 b o k (123::x::r)=Rf.formFrom 6 b o (k+2) r:=fun r=>by
  rw[XD _ h5 rfl,XD _ (MG b o _) hx1];simp only[hx1,if_true]
 have hs5:∀r,Yk 1 b o (123::x::r)=Yk 6 b o r:=fun r=>by
  rw[YG _ h5 rfl rfl,YG _ (MG b o _) hx1 rfl];simp only[hx1,if_true]
 rcases t with _|⟨y,t⟩
 ·right;have hy:Y5 s ((k:Int)+2)=-1:=by rw[e2];rfl
  rw[hC,Pg.readMost,hy];refine⟨rfl,?_⟩;rw[hf5,U9 _ _ _ _ (by simp)];first|(simp;done)|(simp;omega)|omega
 have e2':Y5 s ((k:Int)+2)=y.toNat:=by rw[e2];rfl
 by_cases hy125:y=125
 ·subst hy125;left;refine⟨3,(x.toNat:Int)-48,(x.toNat:Int)-48,?_,by rw[e1',x1],Or.inl ⟨x,t,rfl,rfl,x2,x3,rfl,rfl⟩,?_⟩
  ·rw[hC,Pg.readMost,e2',if_pos (by decide),show(k:Int)+2+1=((k+3:Nat):Int) by omega]
  ·show Yk 1 b o [123,x,125]=_;rw[hs5,YG _ (JB b o _ (by decide)) (by rfl) rfl];rfl
 have hy125':=YA hy125;have hy125'':(y.toNat:Int)≠125:=hy125';by_cases hy44:y=44
 ·subst hy44;have h7:Rf.read 6 b o ((44:UInt8).toNat:Int)=⟨true,7,b,o⟩:=Ij b o;have hM:Pg.readCount (Y5 s) k=if Pg.digitValue (Y5 s ((k:Int)+3))<0 then ⟨0,(k:Int)+3,false⟩ else if Y5 s ((k:Int)+4)=125 then ⟨Pg.digitValue (Y5 s ((k:Int)+3)),(k:Int)+2+3,true⟩ else ⟨0,(k:Int)+4,false⟩:=by
   rw[hC,Pg.readMost,e2',if_neg (by decide),if_pos (by decide),a1,a2]
  rcases t with _|⟨z,t⟩
  ·right;have hz:Pg.digitValue (Y5 s ((k:Int)+3))<0:=by rw[e3];simp[at_,Pg.digitValue]
   rw[hM,if_pos hz];refine⟨rfl,?_⟩;rw[hf5,XD _ h7 rfl,U9 _ _ _ _ (by simp)];first|(simp;done)|(simp;omega)|omega
  have e3':Y5 s ((k:Int)+3)=z.toNat:=by rw[e3];rfl
  by_cases hz:Pg.digitValue z.toNat<0
  ·right;have hz1:Rf.digit z.toNat=false:=by rw[Uj];simp;omega
   rw[hM,e3',if_pos hz];refine⟨rfl,?_⟩;rw[hf5,XD _ h7 rfl,Vn _ (O5 b o _) hz1];first|(simp;done)|(simp;omega)|omega
  have hz1:Rf.digit z.toNat=true:=by rw[Uj];simp;omega
  obtain⟨z1,z2,z3⟩:=Ua _ hz;rcases t with _|⟨y2,t⟩
  ·right;have hq:Y5 s ((k:Int)+4)=-1:=by rw[e4];rfl
   rw[hM,e3',if_neg hz,hq,if_neg (by decide)];refine⟨rfl,?_⟩;rw[hf5,XD _ h7 rfl,XD _ (O5 b o _) hz1];simp only[hz1,if_true];rw[U9 _ _ _ _ (by simp)];first|(simp;done)|(simp;omega)|omega
  have e4':Y5 s ((k:Int)+4)=y2.toNat:=by rw[e4];rfl
  by_cases hq:y2=125
  ·subst hq;left;refine⟨5,(z.toNat:Int)-48,(x.toNat:Int)-48,?_,by rw[e1',x1],Or.inr ⟨x,z,t,rfl,rfl,x2,x3,z2,z3,rfl,rfl⟩,?_⟩
   ·rw[hM,e3',if_neg hz,e4',if_pos (by decide),z1,show(k:Int)+2+3=((k+5:Nat):Int) by omega]
   ·show Yk 1 b o [123,x,44,z,125]=_;rw[hs5,YG _ h7 rfl rfl,YG _ (O5 b o _) hz1 rfl];simp only[hz1,if_true];rw[YG _ (JC b o _) (by rfl) rfl];rfl
  ·right;have hq':(y2.toNat:Int)≠125:=YA hq;rw[hM,e3',if_neg hz,e4',if_neg hq'];refine⟨rfl,?_⟩;rw[hf5,XD _ h7 rfl,XD _ (O5 b o _) hz1];simp only[hz1,if_true];rw[Vn _ (JC b o _) (by simpa using hq')];first|(simp;done)|(simp;omega)|omega
 ·right;have hy44':(y.toNat:Int)≠44:=YA hy44;rw[hC,Pg.readMost,e2',if_neg hy125'',if_neg hy44'];refine⟨rfl,?_⟩;rw[hf5,Vn _ (JB b o _ hy44') (by simpa using hy125'')];first|(simp;done)|(simp;omega)|omega
theorem WI {x:UInt8} (h0:48<=(x.toNat:Int)) (h1:(x.toNat:Int)<=57):x≠92/\x≠91/\x≠123:=by
 refine⟨?_,?_,?_⟩<;>(intro e;subst e;revert h0 h1;decide)
theorem Lb (s:ByteArray) (k:Nat) (t:List UInt8) (b op:Int) (hd:s.data.toList.drop k=123::t):
  Pj s k 1 b op 8\/((Pg.readPart (Y5 s) s.size k 8).ok=false/\Rf.formFrom 1 b op k (s.data.toList.drop k)=(Pg.readPart (Y5 s) s.size k 8).n):=by
 have hP:Pg.readPart (Y5 s) s.size k 8=⟨(Pg.readCount (Y5 s) k).n,(Pg.readCount (Y5 s) k).ok,fun _=>false,(Pg.readCount (Y5 s) k).v,Pg.countFalls (Y5 s) k⟩:=rfl;have hlenk:(s.data.toList.drop k).length=s.size-k:=by simp
 rw[hd]at hlenk;rcases RT s k t b op hd with ⟨n,mo,le,h1,h2,h3,h4⟩|⟨h1,h2⟩
 ·left;have hlt:=XY hd;have hn:1<=n/\k+n<=s.size:=by
   rcases h3 with ⟨x,r,rfl,rfl,_⟩|⟨x,z,r,rfl,rfl,_⟩<;>(simp at hlenk;omega)
  have hF:Pg.countFalls (Y5 s) k=if mo<le then (k:Int) else -1:=by rw[Pg.countFalls,h1,h2]
  rw[<-hd]at h4;obtain⟨g1,g2⟩:=Xs hn.2 h4;refine⟨n,fun _=>false,mo,if mo<le then (k:Int) else -1,b,hn.1,hn.2,by rw[hP,h1,hF],g1,g2,by split<;>omega,?_,?_⟩
  ·rcases h3 with ⟨x,r,rfl,rfl,x1,x2,rfl,rfl⟩|⟨x,z,r,rfl,rfl,x1,x2,z1,z2,rfl,rfl⟩
   ·have d1:s.data.toList.drop (k+1)=x::125::r:=by rw[<-YW,hd];rfl
    have d2:s.data.toList.drop (k+2)=125::r:=by rw[<-YW,hd];rfl
    obtain⟨q1,q2,q3⟩:=WI x1 x2;refine⟨3,fun v=>?_⟩;have hfa:(if (x.toNat:Int)-48<(x.toNat:Int)-48 then (k:Int) else -1)=-1:=if_neg (by omega);simp only[hfa,if_true];rw[show v+3=v+2+1 by omega,Rf.valueFrom,hd];simp only;rw[if_neg (by decide),if_neg (by decide),if_pos trivial,if_neg (by decide)];rw[show v+2=v+1+1 by omega,Xv d1 q1 q2 q3,Xv d2 (by decide) (by decide) (by decide)]
   ·have d1:s.data.toList.drop (k+1)=x::44::z::125::r:=by rw[<-YW,hd];rfl
    have d2:s.data.toList.drop (k+2)=44::z::125::r:=by rw[<-YW,hd];rfl
    have d3:s.data.toList.drop (k+3)=z::125::r:=by rw[<-YW,hd];rfl
    have d4:s.data.toList.drop (k+4)=125::r:=by rw[<-YW,hd];rfl
    obtain⟨q1,q2,q3⟩:=WI x1 x2;obtain⟨p1,p2,p3⟩:=WI z1 z2;refine⟨5,fun v=>?_⟩;rw[show v+5=v+4+1 by omega,Rf.valueFrom,hd];simp only;rw[if_neg (by decide),if_neg (by decide),if_pos trivial,if_pos trivial];by_cases hlt2:z.toNat<x.toNat
    ·have hfa:(if (z.toNat:Int)-48<(x.toNat:Int)-48 then (k:Int) else -1)=k:=if_pos (by omega);rw[if_pos hlt2,hfa,if_neg (by omega)]
    ·have hfa:(if (z.toNat:Int)-48<(x.toNat:Int)-48 then (k:Int) else -1)=-1:=if_neg (by omega);rw[if_neg hlt2];simp only[hfa,if_true];rw[show v+4=v+3+1 by omega,Xv d1 q1 q2 q3,show v+3=v+2+1 by omega,Xv d2 (by decide) (by decide) (by decide),show v+2=v+1+1 by omega,Xv d3 p1 p2 p3,Xv d4 (by decide) (by decide) (by decide)]
  ·rcases h3 with ⟨x,r,rfl,rfl,x1,x2,rfl,rfl⟩|⟨x,z,r,rfl,rfl,x1,x2,z1,z2,rfl,rfl⟩
   ·have d1:s.data.toList.drop (k+1)=x::125::r:=by rw[<-YW,hd];rfl
    have d2:s.data.toList.drop (k+2)=125::r:=by rw[<-YW,hd];rfl
    obtain⟨q1,q2,q3⟩:=WI x1 x2;refine⟨3,fun v=>?_⟩;rw[if_neg (by omega),show v+3=v+2+1 by omega,XJ hd (by decide) (by decide),show v+2=v+1+1 by omega,XJ d1 q1 q2,XJ d2 (by decide) (by decide)]
   ·have d1:s.data.toList.drop (k+1)=x::44::z::125::r:=by rw[<-YW,hd];rfl
    have d2:s.data.toList.drop (k+2)=44::z::125::r:=by rw[<-YW,hd];rfl
    have d3:s.data.toList.drop (k+3)=z::125::r:=by rw[<-YW,hd];rfl
    have d4:s.data.toList.drop (k+4)=125::r:=by rw[<-YW,hd];rfl
    obtain⟨q1,q2,q3⟩:=WI x1 x2;obtain⟨p1,p2,p3⟩:=WI z1 z2;refine⟨5,fun v=>?_⟩;rw[if_neg (by omega),show v+5=v+4+1 by omega,XJ hd (by decide) (by decide),show v+4=v+3+1 by omega,XJ d1 q1 q2,show v+3=v+2+1 by omega,XJ d2 (by decide) (by decide),show v+2=v+1+1 by omega,XJ d3 p1 p2,XJ d4 (by decide) (by decide)]
 ·right;refine⟨by rw[hP];exact h1,?_⟩;rw[hP,hd];exact h2
theorem NV {m:Int} (b o c:Int) (hm:m=0\/m=1):Rf.read m b o c=Rf.outside m b o c:=by
 rcases hm with rfl|rfl<;>simp[Rf.read,Rf.rest]
def Fm (s:ByteArray) (k:Nat) (m b op before:Int):Prop:=
 (Pg.canStand (Pg.kindOf (Y5 s k)) before op=false/\Rf.formFrom m b op k (s.data.toList.drop k)=(k:Int)) \/
 (Pg.canStand (Pg.kindOf (Y5 s k)) before op=true/\(Pj s k m b op (Pg.kindOf (Y5 s k)) \/
  ((Pg.readPart (Y5 s) s.size k (Pg.kindOf (Y5 s k))).ok=false/\Rf.formFrom m b op k (s.data.toList.drop k)=(Pg.readPart (Y5 s) s.size k (Pg.kindOf (Y5 s k))).n)))
theorem FQ (s:ByteArray) (k:Nat) (c:UInt8) (r:List UInt8) (m b op before:Int) (hd:s.data.toList.drop k=c::r) (hmb:m=XF before):Fm s k m b op before:=by
 have hm:m=0\/m=1:=by rw[hmb,XF];split<;>simp
 have hb:Y5 s (k:Int)=c.toNat:=by rw[UF hd];rfl
 have hread:Rf.read m b op c.toNat=Rf.outside m b op c.toNat:=NV _ _ _ hm;have hother:∀kd:Int,kd≠1->kd≠8->Pg.readPart (Y5 s) s.size k kd=⟨(k:Int)+1,true,fun _=>false,0,-1⟩:=fun kd h1 h8=>by rw[Pg.readPart,if_neg h1,if_neg h8]
 unfold Fm;rw[hb];by_cases e91:c=91
 ·subst e91;right;exact⟨rfl,Iq s k r m b op hm hd⟩
 by_cases e92:c=92
 ·subst e92;right;exact⟨rfl,Ip s k r m b op hm hd⟩
 by_cases e123:c=123
 ·subst e123;cases hep:Pg.endsPiece before
  ·left;have hm0:m=0:=by rw[hmb,XF,hep];rfl
   subst hm0;refine⟨?_,?_⟩
   ·show Pg.canStand 8 before op=false;simp[Pg.canStand,Pg.isSuffix,hep]
   ·rw[hd,Vn _ hread rfl]
  ·right;have hm1:m=1:=by rw[hmb,XF,hep];rfl
   subst hm1;refine⟨?_,Lb s k r b op hd⟩;show Pg.canStand 8 before op=true;simp[Pg.canStand,Pg.isSuffix,hep]
 by_cases e40:c=40
 ·subst e40;right;refine⟨rfl,Or.inl (Vu s k 40 r m b op 2 (fun _=>false) ⟨true,0,b,op+1⟩ hd e92 e91 e123 ?_ rfl rfl rfl (hother 2 (by decide) (by decide)) (by omega))⟩;rw[hread];rfl
 by_cases e41:c=41
 ·subst e41;by_cases hop:0<op
  ·right;refine⟨?_,Or.inl (Vu s k 41 r m b op 3 (fun _=>false) ⟨true,1,b,op-1⟩ hd e92 e91 e123 ?_ rfl rfl rfl (hother 3 (by decide) (by decide)) (by omega))⟩
   ·show Pg.canStand 3 before op=true;simp[Pg.canStand,hop]
   ·rw[hread];show Rf.to m b (op-1) (decide (1<=op)) 1=_;have:decide (1<=op)=true:=by simp;omega
    rw[this];rfl
  ·left;refine⟨?_,?_⟩
   ·show Pg.canStand 3 before op=false;simp[Pg.canStand];omega
   ·rw[hd,Vn (Rf.to m b (op-1) (decide (1<=op)) 1) (by rw[hread];rfl) (by simp[Rf.to];omega)]
 by_cases e124:c=124
 ·subst e124;right;refine⟨rfl,Or.inl (Vu s k 124 r m b op 4 (fun _=>false) ⟨true,0,b,op⟩ hd e92 e91 e123 ?_ rfl rfl rfl (hother 4 (by decide) (by decide)) (by omega))⟩;rw[hread];rfl
 by_cases esuf:c=42\/c=43\/c=63
 ·have hsuf:∀kd:Int,Pg.kindOf c.toNat=kd->Pg.isSuffix kd=true->kd≠0->kd≠3->kd≠1->kd≠8->Pg.opens kd op=op->XF kd=1->Rf.outside m b op c.toNat=⟨m==1,m,b,op⟩ ->
    (Pg.canStand (Pg.kindOf c.toNat) before op=false/\Rf.formFrom m b op k (s.data.toList.drop k)=(k:Int))\/(Pg.canStand (Pg.kindOf c.toNat) before op=true/\(Pj s k m b op (Pg.kindOf c.toNat)\/((Pg.readPart (Y5 s) s.size k (Pg.kindOf c.toNat)).ok=false/\Rf.formFrom m b op k (s.data.toList.drop k)=(Pg.readPart (Y5 s) s.size k (Pg.kindOf c.toNat)).n))):=by
   intro kd hkd hs0 n0 n3 n1 n8 hopn hmode hout;rw[hkd];have hcs:Pg.canStand kd before op=Pg.endsPiece before:=by simp[Pg.canStand,n0,n3,hs0]
   cases hep:Pg.endsPiece before
   ·left;have hm0:m=0:=by rw[hmb,XF,hep];rfl
    subst hm0;exact⟨by rw[hcs,hep],by rw[hd,Vn _ (by rw[hread,hout]) rfl]⟩
   ·right;have hm1:m=1:=by rw[hmb,XF,hep];rfl
    subst hm1;exact⟨by rw[hcs,hep],Or.inl (Vu s k c r 1 b op kd (fun _=>false) ⟨true,1,b,op⟩ hd e92 e91 e123 (by rw[hread,hout];rfl) rfl hmode.symm hopn.symm (hother kd n1 n8) (fun h=>n1 h.1))⟩
  rcases esuf with rfl|rfl|rfl
  ·exact hsuf 5 rfl rfl (by decide) (by decide) (by decide) (by decide) rfl rfl rfl
  ·exact hsuf 6 rfl rfl (by decide) (by decide) (by decide) (by decide) rfl rfl rfl
  ·exact hsuf 7 rfl rfl (by decide) (by decide) (by decide) (by decide) rfl rfl rfl
 by_cases ewr:c=93\/c=125
 ·left;rcases ewr with rfl|rfl
  ·exact⟨rfl,by rw[hd,Vn _ hread rfl]⟩
  ·exact⟨rfl,by rw[hd,Vn _ hread rfl]⟩
 have n91:(c.toNat:Int)≠91:=YA e91;have n92:(c.toNat:Int)≠92:=YA e92;have n123:(c.toNat:Int)≠123:=YA e123;have n40:(c.toNat:Int)≠40:=YA e40;have n41:(c.toNat:Int)≠41:=YA e41;have n124:(c.toNat:Int)≠124:=YA e124;have n42:(c.toNat:Int)≠42:=YA (fun e=>esuf (Or.inl e));have n43:(c.toNat:Int)≠43:=YA (fun e=>esuf (Or.inr (Or.inl e)));have n63:(c.toNat:Int)≠63:=YA (fun e=>esuf (Or.inr (Or.inr e)));have n93:(c.toNat:Int)≠93:=YA (fun e=>ewr (Or.inl e));have n125:(c.toNat:Int)≠125:=YA (fun e=>ewr (Or.inr e));have hk1:Pg.kindOf c.toNat=1:=by
  unfold Pg.kindOf;rw[if_neg (by omega),if_neg n40,if_neg n41,if_neg n124,if_neg n42,if_neg n43,if_neg n63,if_neg n123]
 have hout:Rf.outside m b op c.toNat=⟨true,1,b,op⟩:=by
  unfold Rf.outside;rw[if_neg n92,if_neg n91,if_neg n40,if_neg n41,if_neg n124,if_neg (by omega),if_neg n123,if_neg (by omega)]
 right;rw[hk1];refine⟨rfl,Or.inl ?_⟩;by_cases e46:(c.toNat:Int)=46
 ·refine Vu s k c r m b op 1 (fun k=>!(Pg.withF (fun _=>false) 10 10 k)) ⟨true,1,b,op⟩ hd e92 e91 e123 (by rw[hread,hout]) rfl rfl rfl ?_ (fun h=>GW h.2);rw[Pg.readPart,if_pos rfl,Pg.readPlace,hb,if_neg n91,if_pos e46]
 ·have hbd:=Oy c;refine Vu s k c r m b op 1 (Pg.withF (fun _=>false) c.toNat c.toNat) ⟨true,1,b,op⟩ hd e92 e91 e123 (by rw[hread,hout]) rfl rfl rfl ?_ (fun h=>Nc c.toNat (by omega) hbd h.2);rw[Pg.readPart,if_pos rfl,Pg.readPlace,hb,if_neg n91,if_neg e46,if_neg n92]
theorem Re (g:Int->Int) (len first:Int) (hg:∀j,-1<=g j/\g j<256) (hl:0<=len):∀(u:Nat) (e fa:Int) (f:Nat->Bool),0<=e->0<=(Pg.setLoop g len first u e fa f).n:=by
 intro u
 induction u with
 |zero=>intro e fa f h;exact h
 |succ u ih=>
  intro e fa f h;have hi:=Pg.readItem_bd g e hg;unfold Pg.setLoop;split
  ·split
   ·simp;omega
   ·split
    ·exact ih _ _ _ (by omega)
    ·simp;omega
  ·exact hl
theorem NT (g:Int->Int) (len i kd:Int) (hg:∀j,-1<=g j/\g j<256) (hl:0<=len) (h:0<=i):0<=(Pg.readPart g len i kd).n:=by
 have he:=Pg.readEscape_bd g i hg;unfold Pg.readPart;split
 ·simp only;unfold Pg.readPlace;split
  ·unfold Pg.readSet;split
   ·exact Re g len _ hg hl _ _ _ _ (by omega)
   ·exact Re g len _ hg hl _ _ _ _ (by omega)
  ·split
   ·simp;omega
   ·split
    ·simp;omega
    ·simp;omega
 ·split
  ·simp only;unfold Pg.readCount Pg.readMost
   repeat' split
   all_goals (simp;omega)
  ·simp;omega
theorem Sd (s:ByteArray):∀(u k:Nat) (bf op b:Int) (acc:List Pg.Pt),s.size<u+k->k<=s.size->0<=op ->
  ((Pg.partsFrom (Y5 s) s.size u bf op k acc).ok=false/\Rf.formFrom (XF bf) b op k (s.data.toList.drop k)=(Pg.partsFrom (Y5 s) s.size u bf op k acc).n/\0<=(Pg.partsFrom (Y5 s) s.size u bf op k acc).n) \/
  (∃ps,(Pg.partsFrom (Y5 s) s.size u bf op k acc).ok=true/\(Pg.partsFrom (Y5 s) s.size u bf op k acc).ps=acc++ps/\Rf.formFrom (XF bf) b op k (s.data.toList.drop k)=-1 /\
   (op<=6->Rf.deepFrom (XF bf) b op k (s.data.toList.drop k)=Pg.tooDeep ps op) /\
   (∃c,∀v,Rf.valueFrom s.data.toList (v+c) k=some (Pg.falling ps))/\(∃c,∀v,Rf.emptyFrom s.data.toList (v+c) k=some (Pg.matchless ps))/\(∀p∈ps,0<=p.pl/\-1<=p.fa)):=by
 intro u
 induction u with
 |zero=>intro k bf op b acc h1 h2;omega
 |succ u ih=>
  intro k bf op b acc hu hk hop;rcases hd:s.data.toList.drop k with _|⟨c,r⟩
  ·have hks:k=s.size:=by
    have:s.size<=k:=by simpa using hd
    omega
   have hge:¬(k:Int)<(s.size:Int):=by omega
   rw[Pg.partsFrom,if_neg hge];have hmode:XF bf=0\/XF bf=1:=by unfold XF;split<;>simp
   by_cases h0:op=0
   ·right;subst h0;refine⟨[],rfl,by simp,?_,fun _=>rfl,⟨1,fun v=>?_⟩,⟨1,fun v=>?_⟩,by simp⟩
    ·rw[Rf.formFrom,if_neg (by omega)]
    ·rw[Rf.valueFrom,hd];rfl
    ·rw[Rf.emptyFrom,hd];rfl
   ·left;refine⟨by simpa using h0,?_,by simp⟩;rw[Rf.formFrom,if_pos (by omega)]
  ·have hlt:=XY hd;have hlti:(k:Int)<(s.size:Int):=by omega
   have ht:=FQ s k c r (XF bf) b op bf hd rfl;rw[Pg.partsFrom,if_pos hlti];unfold Fm at ht;rw[hd]at ht;rcases ht with ⟨h1,h2⟩|⟨h1,h2|⟨h2,h3⟩⟩
   ·left;rw[h1];exact⟨rfl,h2,by simp⟩
   ·obtain⟨n,F,mo,fa,b',hn1,hn2,hp,hform,hdeep,hfa,⟨cv,hval⟩,⟨ce,hemp⟩⟩:=h2;rw[h1,hp];simp only[if_true];rw[hd]at hform hdeep;have hop':0<=Pg.opens (Pg.kindOf (Y5 s k)) op:=by
     unfold Pg.opens;split
     ·omega
     ·split
      ·rename_i h3;rw[h3]at h1;simp[Pg.canStand]at h1;omega
      ·exact hop
    generalize Pg.kindOf (Y5 s k)=kd at *;rcases ih (k+n) kd (Pg.opens kd op) b' (acc++[⟨kd,k,F,0,mo,fa⟩]) (by omega) hn2 hop' with ⟨g1,g2,g3⟩|⟨ps,g1,g2,g3,g4,⟨cv2,g5⟩,⟨ce2,g6⟩,g7⟩
    ·left;exact⟨g1,by rw[hform];exact g2,g3⟩
    ·right;refine⟨⟨kd,k,F,0,mo,fa⟩::ps,g1,by rw[g2];simp,by rw[hform];exact g3,fun ho=>?_,?_,?_,?_⟩
     ·rw[hdeep ho,Pg.tooDeep];by_cases h6:6<Pg.opens kd op
      ·rw[if_pos h6,if_pos h6]
      ·rw[if_neg h6,if_neg h6];exact g4 (by omega)
     ·refine⟨cv2+cv,fun v=>?_⟩;rw[show v+(cv2+cv)=(v+cv2)+cv by omega,hval,Pg.falling];by_cases hf:fa=-1
      ·rw[if_pos hf,if_pos hf];exact g5 v
      ·rw[if_neg hf,if_neg hf]
     ·refine⟨ce2+ce,fun v=>?_⟩;rw[show v+(ce2+ce)=(v+ce2)+ce by omega,hemp,Pg.matchless];by_cases hf:kd=1/\Rf.cntTo F 256=0
      ·rw[if_pos hf,if_pos hf]
      ·rw[if_neg hf,if_neg hf];exact g6 v
     ·intro p hp2;rcases List.mem_cons.1 hp2 with h|h
      ·subst h;exact⟨by simp,hfa⟩
      ·exact g7 p h
   ·left;rw[h1];simp only[if_true];rw[h2];refine⟨rfl,h3,?_⟩;exact NT _ _ _ _ (Qx s) (by omega) (by omega)
theorem Vr {l:List UInt8}{v:Int} (h:Rf.one l=some (v,n)) (r:List UInt8):Rf.one (l.take n++r)=some (v,n):=by
 unfold Rf.one at h;rcases l with _|⟨c,t⟩
 ·cases h
 simp only at h;by_cases h92:c=92
 ·rw[if_pos h92]at h;rcases t with _|⟨d,t⟩
  ·cases h
  simp only at h;by_cases h110:d=110
  ·rw[if_pos h110]at h;simp only[Option.some.injEq,Prod.mk.injEq]at h;obtain⟨rfl,rfl⟩:=h;simp[Rf.one,h92,h110]
  rw[if_neg h110]at h;by_cases h116:d=116
  ·rw[if_pos h116]at h;simp only[Option.some.injEq,Prod.mk.injEq]at h;obtain⟨rfl,rfl⟩:=h;simp[Rf.one,h92,h116]
  rw[if_neg h116]at h;by_cases h120:d=120
  ·rw[if_pos h120]at h;rcases t with _|⟨x,_|⟨y,t⟩⟩
   ·cases h
   ·cases h
   simp only at h;split at h
   ·rename_i hxy;simp only[Option.some.injEq,Prod.mk.injEq]at h;obtain⟨rfl,rfl⟩:=h;rw[Bool.and_eq_true]at hxy;simp[Rf.one,h92,h120,hxy.1,hxy.2]
   ·cases h
  ·rw[if_neg h120]at h;simp only[Option.some.injEq,Prod.mk.injEq]at h;obtain⟨rfl,rfl⟩:=h;simp[Rf.one,h92,h110,h116,h120]
 ·rw[if_neg h92]at h;simp only[Option.some.injEq,Prod.mk.injEq]at h;obtain⟨rfl,rfl⟩:=h;simp[Rf.one,h92]
theorem RY:∀(f:Nat) (l:List UInt8) (i:Nat) (fa:Int) (inn:Nat->Bool) (j:Nat) (FA:Int) (F:Nat->Bool),Rf.items f l i fa inn=some (j,FA,F) ->
  ∀(r:List UInt8) (f' i':Nat) (fa':Int),j-i+1<=f'->∃FA',Rf.items f' (l.take (j-i+1)++r) i' fa' inn=some (i'+(j-i),FA',F):=by
 intro f
 induction f with
 |zero=>intro l i fa inn j FA F h;simp[Rf.items]at h
 |succ f ih=>
  intro l i fa inn j FA F h r f' i' fa' hf;obtain⟨f',rfl⟩:∃q,f'=q+1:=⟨f'-1,by omega⟩;have hge:=Rf.items_ge h;unfold Rf.items at h;rcases l with _|⟨c,t⟩
  ·cases h
  simp only at h;by_cases h93:c=93
  ·rw[if_pos h93]at h;simp only[Option.some.injEq,Prod.mk.injEq]at h;obtain⟨rfl,_,rfl⟩:=h;refine⟨fa',?_⟩;simp[Rf.items,h93]
  rw[if_neg h93]at h;rcases ho:Rf.one (c::t)with _|⟨a,n⟩
  ·rw[ho]at h;cases h
  rw[ho]at h;simp only at h;have hn:=Rf.one_le ho;have hnb:=Rf.one_bd ho;rcases hd:(c::t).drop n with _|⟨d,l'⟩
  ·rw[hd]at h;cases h
  rw[hd]at h;simp only at h;by_cases h45:d=45
  ·rw[if_pos h45]at h;rcases ho2:Rf.one l' with _|⟨b,n'⟩
   ·rw[ho2]at h;cases h
   rw[ho2]at h;simp only at h;have hge2:=Rf.items_ge h;have hnb2:=Rf.one_bd ho2;obtain⟨FA',hI⟩:=ih _ _ _ _ _ _ _ h r f' (i'+n+1+n') (if b<a/\fa'<0 then (i':Int) else fa') (by omega);refine⟨FA',?_⟩;have e1:(c::t).take (j-i+1)++r=(c::t).take n++(d::(l'.take n'++((l'.drop n').take (j-(i+n+1+n')+1)++r))):=by
    rw[show j-i+1=n+(1+(n'+(j-(i+n+1+n')+1))) by omega,List.take_add,hd,show 1+(n'+(j-(i+n+1+n')+1))=(n'+(j-(i+n+1+n')+1))+1 by omega,List.take_succ_cons,List.take_add];simp[List.append_assoc]
   have htn:((c::t).take n).length=n:=by rw[List.length_take];omega
   have hhead:∃r2,(c::t).take n++(d::(l'.take n'++((l'.drop n').take (j-(i+n+1+n')+1)++r)))=c::r2:=by
    obtain⟨n0,rfl⟩:∃q,n=q+1:=⟨n-1,by omega⟩;exact⟨_,by rw[List.take_succ_cons,List.cons_append]⟩
   obtain⟨r2,hr2⟩:=hhead;have hone:=Vr ho (d::(l'.take n'++((l'.drop n').take (j-(i+n+1+n')+1)++r)));rw[e1,hr2,Rf.items];simp only[if_neg h93];rw[<-hr2,hone];simp only;rw[show((c::t).take n++(d::(l'.take n'++((l'.drop n').take (j-(i+n+1+n')+1)++r)))).drop n=d::(l'.take n'++((l'.drop n').take (j-(i+n+1+n')+1)++r)) by
    rw[List.drop_append_of_le_length (by omega),List.drop_of_length_le (by omega)];rfl]
   simp only[if_pos h45];rw[Vr ho2];simp only;have hn':=Rf.one_le ho2;rw[show(l'.take n'++((l'.drop n').take (j-(i+n+1+n')+1)++r)).drop n'=(l'.drop n').take (j-(i+n+1+n')+1)++r by
    rw[List.drop_append_of_le_length (by rw[List.length_take];omega),List.drop_of_length_le (by rw[List.length_take];omega)];rfl]
   rw[hI];congr 2;omega
  ·rw[if_neg h45]at h;have hge2:=Rf.items_ge h;obtain⟨FA',hI⟩:=ih _ _ _ _ _ _ _ h r f' (i'+n) fa' (by omega);refine⟨FA',?_⟩;have e1:(c::t).take (j-i+1)++r=(c::t).take n++((d::l').take (j-(i+n)+1)++r):=by
    rw[show j-i+1=n+(j-(i+n)+1) by omega,List.take_add,hd,List.append_assoc]
   have htn:((c::t).take n).length=n:=by rw[List.length_take];omega
   have hhead:∃r2,(c::t).take n++((d::l').take (j-(i+n)+1)++r)=c::r2:=by
    obtain⟨n0,rfl⟩:∃q,n=q+1:=⟨n-1,by omega⟩;exact⟨_,by rw[List.take_succ_cons,List.cons_append]⟩
   obtain⟨r2,hr2⟩:=hhead;have hone:=Vr ho ((d::l').take (j-(i+n)+1)++r);rw[e1,hr2,Rf.items];simp only[if_neg h93];rw[<-hr2,hone];simp only;rw[show((c::t).take n++((d::l').take (j-(i+n)+1)++r)).drop n=(d::l').take (j-(i+n)+1)++r by
    rw[List.drop_append_of_le_length (by omega),List.drop_of_length_le (by omega)];rfl]
   rw[List.take_succ_cons,List.cons_append]at hI ⊢;simp only[if_neg h45];rw[hI];congr 2;omega
theorem PG {l:List UInt8}{FA:Int} (h:Rf.set l i=some (n,FA,F)) (r:List UInt8) (i':Nat):∃FA',Rf.set (l.take (n-i-1)++r) i'=some (i'+(n-i),FA',F):=by
 have hge:=Rf.set_ge h;unfold Rf.set at h;rcases l with _|⟨c,t⟩
 ·cases h
 simp only at h;by_cases h94:c=94
 ·rw[if_pos h94]at h;rcases hx:Rf.items (t.length+1) t (i+2) (-1) (fun _=>false)with _|⟨a,b,d⟩
  ·rw[hx]at h;cases h
  rw[hx]at h;have hg:=Rf.items_ge hx;simp only[Option.map_some,Option.some.injEq,Prod.mk.injEq]at h;obtain⟨rfl,_,rfl⟩:=h;have hlt:=Rf.items_lt hx;have e1:(c::t).take (a+1-i-1)++r=c::(t.take (a-(i+2)+1)++r):=by
   rw[show a+1-i-1=(a-(i+2)+1)+1 by omega,List.take_succ_cons,List.cons_append]
  have hl:a-(i+2)+1<=(t.take (a-(i+2)+1)++r).length+1:=by
   rw[List.length_append,List.length_take];omega
  obtain⟨FA',hI⟩:=RY _ _ _ _ _ _ _ _ hx r ((t.take (a-(i+2)+1)++r).length+1) (i'+2) (-1) hl;rw[e1,Rf.set];simp only[if_pos h94,hI,Option.map_some];exact⟨FA',by rw[show i'+2+(a-(i+2))+1=i'+(a+1-i) by omega]⟩
 ·rw[if_neg h94]at h;rcases hx:Rf.items (t.length+2) (c::t) (i+1) (-1) (fun _=>false)with _|⟨a,b,d⟩
  ·rw[hx]at h;cases h
  rw[hx]at h;have hg:=Rf.items_ge hx;simp only[Option.map_some,Option.some.injEq,Prod.mk.injEq]at h;obtain⟨rfl,_,rfl⟩:=h;have hlt:=Rf.items_lt hx;have e1:(c::t).take (a+1-i-1)++r=c::(t.take (a-(i+1))++r):=by
   rw[show a+1-i-1=(a-(i+1))+1 by omega,List.take_succ_cons,List.cons_append]
  have e2:(c::t).take (a-(i+1)+1)++r=c::(t.take (a-(i+1))++r):=by
   rw[List.take_succ_cons,List.cons_append]
  have hl:a-(i+1)+1<=(t.take (a-(i+1))++r).length+2:=by
   simp only[List.length_cons]at hlt;rw[List.length_append,List.length_take];omega
  obtain⟨FA',hI⟩:=RY _ _ _ _ _ _ _ _ hx r ((t.take (a-(i+1))++r).length+2) (i'+1) (-1) hl;rw[e2]at hI;rw[e1,Rf.set];simp only[if_neg h94,hI,Option.map_some];exact⟨FA',by rw[show i'+1+(a-(i+1))+1=i'+(a+1-i) by omega]⟩
structure Tk where
 w:List UInt8
 kd:Int
 mo:Int
def Ye (ts:List Tk):List UInt8:=ts.flatMap (·.w)
theorem Yg (a b:List Tk):Ye (a++b)=Ye a++Ye b:=by simp[Ye]
theorem Yd (t:Tk) (b:List Tk):Ye (t::b)=t.w++Ye b:=by simp[Ye]
def WC (c:UInt8):Prop:=c=92\/c=91\/c=123\/c=40\/c=41\/c=124\/c=42\/c=43\/c=63\/c=93\/c=125
def SI (w:List UInt8):Prop:=
 (∃c,w=[c]/\¬WC c)\/(∃e v,w=92::e/\∀r,Rf.one (92::(e++r))=some (v,e.length+1)) \/
 (∃e,w=91::e/\∀r i,∃fa inn,Rf.set (e++r) i=some (i+(e.length+1),fa,inn))
def VR (w:List UInt8) (mo:Int):Prop:=
 (∃x:UInt8,w=[123,x,125]/\48<=(x.toNat:Int)/\(x.toNat:Int)<=57/\mo=(x.toNat:Int)-48) \/
 (∃x z:UInt8,w=[123,x,44,z,125]/\48<=(x.toNat:Int)/\(x.toNat:Int)<=57/\48<=(z.toNat:Int)/\(z.toNat:Int)<=57/\mo=(z.toNat:Int)-48)
def VS (t:Tk):Prop:=
 (t.kd=1/\SI t.w)\/(t.kd=2/\t.w=[40])\/(t.kd=3/\t.w=[41])\/(t.kd=4/\t.w=[124])\/(t.kd=5/\t.w=[42])\/(t.kd=6/\t.w=[43])\/(t.kd=7/\t.w=[63])\/(t.kd=8/\VR t.w t.mo)
def Ym (t:Tk):Prop:=t.kd=5\/t.kd=6\/t.kd=7\/t.kd=8
def Is:Nat->Bool->List Tk->Int->Prop
 |0,_,_,_=>False
 |f+1,true,ts,V=>(ts=[]/\V=0)\/(∃t r,ts=t::r/\VS t/\t.kd=4/\Is f true r V) \/
   (∃p r A B,ts=p++r/\Is f false p A/\Is f true r B/\V=A+B/\∀t r',r=t::r'->¬Ym t)
 |f+1,false,ts,V=>(∃t,ts=[t]/\VS t/\t.kd=1/\V=1)\/(∃a inn b,ts=a::(inn++[b])/\VS a/\a.kd=2/\VS b/\b.kd=3/\Is f true inn V) \/
   (∃q t A,ts=q++[t]/\Is f false q A/\VS t/\Ym t/\V=if t.kd=8 then A*t.mo else A)
theorem GM:∀(f:Nat) (g:Bool) (ts:List Tk) (V:Int),Is f g ts V->Is (f+1) g ts V:=by
 intro f
 induction f with
 |zero=>intro g ts V h;exact absurd h (by simp[Is])
 |succ f ih=>
  intro g ts V h;cases g
  ·unfold Is at h ⊢;rcases h with h|⟨a,inn,b,h1,h2,h3,h4,h5,h6⟩|⟨q,t,A,h1,h2,h3,h4,h5⟩
   ·exact Or.inl h
   ·exact Or.inr (Or.inl ⟨a,inn,b,h1,h2,h3,h4,h5,ih _ _ _ h6⟩)
   ·exact Or.inr (Or.inr ⟨q,t,A,h1,ih _ _ _ h2,h3,h4,h5⟩)
  ·unfold Is at h ⊢;rcases h with h|⟨t,r,h1,h2,h3,h4⟩|⟨p,r,A,B,h1,h2,h3,h4,h5⟩
   ·exact Or.inl h
   ·exact Or.inr (Or.inl ⟨t,r,h1,h2,h3,ih _ _ _ h4⟩)
   ·exact Or.inr (Or.inr ⟨p,r,A,B,h1,ih _ _ _ h2,ih _ _ _ h3,h4,h5⟩)
theorem SJ {f:Nat}{b:Bool}{ts:List Tk}{V:Int} (h:Is f b ts V) (hfg:f<=g):Is g b ts V:=by
 induction g with
 |zero=>
   have:f=0:=by omega
   subst this;exact h
 |succ g ih=>
  by_cases e:f=g+1
  ·subst e;exact h
  ·exact GM _ _ _ _ (ih (by omega))
def IG:List Tk->Int->Int->Prop
 |[],_,op=>op=0
 |t::r,bf,op=>VS t/\Pg.canStand t.kd bf op=true/\IG r t.kd (Pg.opens t.kd op)
theorem Je {t:Tk} (h:VS t):t.kd=1\/t.kd=2\/t.kd=3\/t.kd=4\/Ym t:=by
 unfold Ym;rcases h with h|h|h|h|h|h|h|h<;>omega
theorem PD {t:Tk} (h:Ym t) (op:Int):Pg.opens t.kd op=op:=by
 unfold Pg.opens Ym at *;rw[if_neg (by omega),if_neg (by omega)]
theorem Fp:∀(r:List Tk) (f:Nat) (q:List Tk) (A bf op:Int),Is f false q A->IG r bf op ->
  ∃f' q' A' r' bf',q++r=q'++r'/\Is f' false q' A'/\IG r' bf' op/\r'.length<=r.length/\∀t r'',r'=t::r''->¬Ym t:=by
 intro r
 induction r with
 |nil=>intro f q A bf op h hv;exact⟨f,q,A,[],bf,rfl,h,hv,Nat.le_refl _,by simp⟩
 |cons t r ih=>
  intro f q A bf op h hv;by_cases hs:Ym t
  ·obtain⟨h1,h2,h3⟩:=hv;rw[PD hs]at h3;have hq:Is (f+1) false (q++[t]) (if t.kd=8 then A*t.mo else A):=Or.inr (Or.inr ⟨q,t,A,rfl,h,h1,hs,rfl⟩);obtain⟨f',q',A',r',bf',e1,e2,e3,e4,e5⟩:=ih (f+1) (q++[t]) _ _ op hq h3;exact⟨f',q',A',r',bf',by rw[<-e1];simp,e2,e3,by simp;omega,e5⟩
  ·exact⟨f,q,A,t::r,bf,rfl,h,hv,Nat.le_refl _,fun t' r'' e=>by cases e;exact hs⟩
theorem GH:∀(n:Nat) (ts:List Tk) (bf op:Int),ts.length<=n->0<=op->IG ts bf op->(∀t r,ts=t::r->¬Ym t) ->
  ∃f inn rest V,ts=inn++rest/\Is f true inn V/\((rest=[]/\op=0)\/(∃b r,rest=b::r/\VS b/\b.kd=3/\0<op/\IG r 3 (op-1))):=by
 intro n
 induction n with
 |zero=>
  intro ts bf op hl h0 hv _;have:ts=[]:=List.eq_nil_of_length_eq_zero (by omega);subst this;exact⟨1,[],[],0,rfl,Or.inl ⟨rfl,rfl⟩,Or.inl ⟨rfl,hv⟩⟩
 |succ n ih=>
  intro ts bf op hl h0 hv hns;rcases ts with _|⟨t,r⟩
  ·exact⟨1,[],[],0,rfl,Or.inl ⟨rfl,rfl⟩,Or.inl ⟨rfl,hv⟩⟩
  obtain⟨h1,h2,h3⟩:=hv;simp only[List.length_cons]at hl;have go:∀(f:Nat) (q r0:List Tk) (A bf0:Int),Is f false q A->IG r0 bf0 op->r0.length<=n->t::r=q++r0 ->
    ∃f inn rest V,t::r=inn++rest/\Is f true inn V/\((rest=[]/\op=0)\/(∃b r,rest=b::r/\VS b/\b.kd=3/\0<op/\IG r 3 (op-1))):=by
   intro f q r0 A bf0 hq hv0 hl0 he;obtain⟨f',q',A',r',bf',e1,e2,e3,e4,e5⟩:=Fp r0 f q A bf0 op hq hv0;obtain⟨f2,inn,rest,V,g1,g2,g3⟩:=ih r' bf' op (by omega) h0 e3 e5;refine⟨max f' f2+1,q'++inn,rest,A'+V,by rw[he,e1,g1,List.append_assoc],Or.inr (Or.inr ⟨q',inn,A',V,rfl,SJ e2 (Nat.le_max_left _ _),SJ g2 (Nat.le_max_right _ _),rfl,?_⟩),g3⟩;intro t' r'' e;exact e5 t' (r''++rest) (by rw[g1,e];rfl)
  rcases Je h1 with hk|hk|hk|hk|hk
  ·rw[hk]at h3;exact go 1 [t] r 1 1 (Or.inl ⟨t,rfl,h1,hk,rfl⟩) h3 (by omega) rfl
  ·rw[hk]at h3;have h3':=h3;obtain⟨f2,inn,rest,V,g1,g2,g3⟩:=ih r 2 (op+1) (by omega) (by omega) h3' (by
    intro t' r' e hs;rw[e]at h3';have:=h3'.2.1;unfold Ym at hs;simp[Pg.canStand,Pg.endsPiece,Pg.isSuffix]at this;rcases hs with h|h|h|h<;>simp[h]at this)
   rcases g3 with ⟨_,g⟩|⟨b,r2,rfl,k1,k2,k3,k4⟩
   ·omega
   ·rw[show op+1-1=op by omega]at k4;refine go (f2+1) (t::(inn++[b])) r2 V 3 (Or.inr (Or.inl ⟨t,inn,b,rfl,h1,hk,k1,k2,g2⟩)) k4 ?_ (by rw[g1];simp);rw[g1]at hl;simp at hl;omega
  ·refine⟨1,[],t::r,0,rfl,Or.inl ⟨rfl,rfl⟩,Or.inr ⟨t,r,rfl,h1,hk,?_,?_⟩⟩
   ·rw[hk]at h2;simpa[Pg.canStand]using h2
   ·rw[hk]at h3;exact h3
  ·rw[hk]at h3;have h3':=h3;obtain⟨f2,inn,rest,V,g1,g2,g3⟩:=ih r 4 op (by omega) h0 h3' (by
    intro t' r' e hs;rw[e]at h3';have:=h3'.2.1;unfold Ym at hs;simp[Pg.canStand,Pg.endsPiece,Pg.isSuffix]at this;rcases hs with h|h|h|h<;>simp[h]at this)
   exact⟨f2+1,t::inn,rest,V,by rw[g1];rfl,Or.inr (Or.inl ⟨t,inn,rfl,h1,hk,g2⟩),g3⟩
  ·exact absurd hk (hns t r rfl)
end Go.Proofs.YtoaaklhpmhjhkabGreat
