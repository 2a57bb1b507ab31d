import Derived.Test.YtoaaklhpmhjhkaaGreatC01
set_option maxRecDepth 100000
set_option maxHeartbeats 4000000
set_option linter.all false
namespace Go.Proofs.YtoaaklhpmhjhkaaGreat
open Go.RowKit
def at_(t:List UInt8)(j:Nat):Int:=match t[j]? with|some c=>(c.toNat:Int)|none=>-1
def UI(s:ByteArray)(k j:Nat):Y7 s ((k:Int)+(j:Int))=at_ (s.data.toList.drop k) j:=by
 unfold at_ Y7;rw[ez];by_cases h:k+j<s.size
 .rw[dF ⟨Qo,Qo⟩,show((k:Int)+(j:Int)).toNat=k+j by omega,Zd (by simpa using h),Zf,Zd (by simpa using h)];rfl
 rw[g_,ZB Qp]
variable {s:ByteArray}{b' mo:Int}{g i k n:Nat}{F:N_}
def Sv{t:List UInt8}(h:s.data.toList.drop k=t):Y7 s (k:Int)=at_ t 0:=by
 have:=UI s k 0;rw[h]at this;simpa using this
def Ia{t:List UInt8}(h:s.data.toList.drop k=t):Y7 s ((k:Int)+1)=at_ t 1:=by
 have:=UI s k 1;rw[h]at this;simpa using this
def zi{t:List UInt8}(h:s.data.toList.drop k=t):Y7 s ((k:Int)+2)=at_ t 2:=by
 have:=UI s k 2;rw[h]at this;simpa using this
def zj{t:List UInt8}(h:s.data.toList.drop k=t):Y7 s ((k:Int)+3)=at_ t 3:=by
 have:=UI s k 3;rw[h]at this;simpa using this
def xZ{t:List UInt8}(h:s.data.toList.drop k=t):Y7 s ((k:Int)+4)=at_ t 4:=by
 have:=UI s k 4;rw[h]at this;simpa using this
def Og(c:Int):Rf.hex c=decide (0<=Pg.gU c):=by
 unfold Rf.hex Rf.iT Pg.gU Pg.iI;rw[eA];simp only[dp,ZS,eB];split
 .constructor<;>intro<;>omega
 split
 .constructor<;>intro<;>omega
 constructor<;>intro<;>omega
def RV(c:Int):Rf.iT c=decide (0<=Pg.iI c):=by
 unfold Rf.iT Pg.iI;rw[eA];simp only[ZS,eB];split<;>(constructor<;>intro<;>omega)
def Lk(c:Int)(h:Rf.hex c=true):Rf.iX c=Pg.gU c:=by
 unfold Rf.hex Rf.iT at h;simp only[dp,ZS,eB]at h;unfold Rf.iX Rf.iT Pg.gU Pg.iI;by_cases h1:97<=c/\c<=102
 .rw[dF h1,dG Qp]
 rw[dG h1,dF Qp,p_]
def Lh(c:Int):Rf.has Rf.marks c=Pg.iM c:=by
 simp only[Rf.marks,Rf.has,Pg.iM,dw];rw[eA];simp only[dp,dq];constructor<;>intro h<;>(simp at h ⊢;omega)
def J8(c:Int)(h0:0<=c)(z:c≠92):(!Rf.has Rf.notInner c)=Pg.iN c:=by
 simp only[Rf.notInner,Rf.has,Pg.iN,dw];congr 1;rw[eA];simp only[dp,dq];constructor<;>intro h<;>(simp at h ⊢;omega)
def Te(m b o:Int)(i:Nat)(h:1<m):Rf.jt m b o i []=i:=by simp[Rf.jt,h]
def WT{m b o:Int}{c:UInt8}{r:List UInt8}(x:Rf.RS)(h:Rf.read m b o c.toNat=x)(z:x.ok=true):Rf.jt m b o i (c::r)=Rf.jt x.m x.bk x.o (i+1) r:=by
 simp[Rf.jt,h,z]
def TI{m b o:Int}{c:UInt8}{r:List UInt8}(x:Rf.RS)(h:Rf.read m b o c.toNat=x)(z:x.ok=false):Rf.jt m b o i (c::r)=i:=by
 simp[Rf.jt,h,z]
def QB(b o:Int):Rf.read 2 b o 120=⟨true,3,b,o⟩:=by simp[Rf.read]
def yR(b o c:Int)(h:c≠120)(z:(c==110 || c==116 || Rf.has Rf.marks c)=true):Rf.read 2 b o c=⟨true,b,b,o⟩:=by
 simp only[Rf.read,dG h,z];rfl
def Au(b o c:Int)(h:c≠120)(z:(c==110 || c==116 || Rf.has Rf.marks c)=false):Rf.read 2 b o c=⟨false,2,b,o⟩:=by
 simp only[Rf.read,dG h,z];rfl
def Kr(b o c:Int):Rf.read 3 b o c=⟨Rf.hex c,if Rf.hex c then 4 else 3,b,o⟩:=by simp[Rf.read,Rf.to]
def CI(b o c:Int):Rf.read 4 b o c=⟨Rf.hex c,if Rf.hex c then b else 4,b,o⟩:=by simp[Rf.read,Rf.to]
def XP(m b o:Int):List UInt8->Option (Int × Int)
 |[]=>some (m,b)
 |c::r=>if (Rf.read m b o c.toNat).ok=true/\(Rf.read m b o c.toNat).o=o then XP (Rf.read m b o c.toNat).m (Rf.read m b o c.toNat).bk o r else none
def Yx{m b o:Int}{c:UInt8}{r:List UInt8}(x:Rf.RS)(h:Rf.read m b o c.toNat=x)(H:x.ok=true)(z:x.o=o):XP m b o (c::r)=XP x.m x.bk o r:=by
 rw[XP,h,dF ⟨H,z⟩]
def Tp{o:Int}:∀(w:List UInt8) (m b z b':Int) (i:Nat) (r:List UInt8),XP m b o w=some (z,b')->Rf.jt m b o i (w++r)=Rf.jt z b' o (i+w.length) r
 |[],m,b,z,b',i,r,h=>by simp only[XP,Zp,dW]at h;rw[h.1,h.2];rfl
 |c::w,m,b,z,b',i,r,h=>by
  rw[XP]at h;split at h
  .rename_i a;rw[Zt,WT _ rfl a.1,a.2,Tp w _ _ _ _ _ _ h];congr 1;simp;omega
  cases h
def NH{o:Int}(H:o<=6):∀(w:List UInt8) (m b z b':Int) (i:Nat) (r:List UInt8),XP m b o w=some (z,b')->Rf.i6 m b o i (w++r)=Rf.i6 z b' o (i+w.length) r
 |[],m,b,z,b',i,r,h=>by simp only[XP,Zp,dW]at h;rw[h.1,h.2];rfl
 |c::w,m,b,z,b',i,r,h=>by
  rw[XP]at h;split at h
  .rename_i a;rw[Zt,Rf.i6,a.2,g_,NH H w _ _ _ _ _ _ h];congr 1;simp;omega
  cases h
def To{o:Int}:∀(w:List UInt8) (m b z b':Int) (r:List UInt8),XP m b o w=some (z,b')->XP m b o (w++r)=XP z b' o r
 |[],m,b,z,b',r,h=>by simp only[XP,Zp,dW]at h;rw[h.1,h.2];rfl
 |c::w,m,b,z,b',r,h=>by
  rw[XP]at h;split at h
  .rename_i a;rw[Zt,XP,dF a];exact To w _ _ _ _ _ h
  cases h
def RY(s:ByteArray)(k:Nat)(t:List UInt8)(h:s.data.toList.drop k=92::t):
  (∃(n:Nat) (v:Int),Pg.iz (Y7 s) k=⟨v,((k+(n+1):Nat):Int),true⟩/\Rf.one (92::t)=some (v,n+1)/\n<=t.length/\∀b o,XP 2 b o (t.take n)=some (b,b)) \/
  (∃n:Nat,(Pg.iz (Y7 s) k).ok=false/\(Pg.iz (Y7 s) k).n=((k+n:Nat):Int)/\∀b o,Rf.jt 2 b o (k+1) t=((k+n:Nat):Int)):=by
 have D:=Ia h;have e2:=zi h;have E:=zj h;have l:(k:Int)+2+1=(k:Int)+3:=Qo
 rcases t with _|⟨d,t⟩
 .right;refine⟨1,?_,?_,λb o=>?_⟩
  .simp[Pg.iz,D,at_,Pg.iM]
  .simp[Pg.iz,D,at_,Pg.iM]
  rw[Te _ _ _ _ Qo]
 have i:Y7 s ((k:Int)+1)=d.toNat:=by rw[D];rfl
 by_cases u:d=120
 .subst u;have z:Pg.iz (Y7 s) k=Pg.ii (Y7 s) ((k:Int)+2):=by
   unfold Pg.iz;rw[i];rfl
  rcases t with _|⟨x,t⟩
  .right;have w:Pg.gU (Y7 s ((k:Int)+2))<0:=by rw[e2];simp[at_,Pg.gU,Pg.iI]
   refine⟨2,?_,?_,λb o=>?_⟩
   .rw[z,Pg.ii,dF w]
   .rw[z,Pg.ii,dF w];simp
   rw[WT _ (QB b o) rfl,Te _ _ _ _ Qs]
  have g:Y7 s ((k:Int)+2)=x.toNat:=by rw[e2];rfl
  by_cases w:Pg.gU x.toNat<0
  .right;have c:Rf.hex x.toNat=false:=by rw[Og];simp;omega
   refine⟨2,?_,?_,λb o=>?_⟩
   .rw[z,Pg.ii,g,dF w]
   .rw[z,Pg.ii,g,dF w];simp
   rw[WT _ (QB b o) rfl,TI _ (Kr b o _) c]
  have c:Rf.hex x.toNat=true:=by rw[Og];simp;omega
  rcases t with _|⟨y,t⟩
  .right;have C:Pg.gU (Y7 s ((k:Int)+3))<0:=by rw[E];simp[at_,Pg.gU,Pg.iI]
   refine⟨3,?_,?_,λb o=>?_⟩
   .rw[z,Pg.ii,g,dG w,l,dF C]
   .rw[z,Pg.ii,g,dG w,l,dF C];simp
   rw[WT _ (QB b o) rfl,WT _ (Kr b o _) c];simp only[c,dB];rw[Te _ _ _ _ Qs]
  have A:Y7 s ((k:Int)+3)=y.toNat:=by rw[E];rfl
  by_cases C:Pg.gU y.toNat<0
  .right;have j:Rf.hex y.toNat=false:=by rw[Og];simp;omega
   refine⟨3,?_,?_,λb o=>?_⟩
   .rw[z,Pg.ii,g,dG w,l,A,dF C]
   .rw[z,Pg.ii,g,dG w,l,A,dF C];simp
   rw[WT _ (QB b o) rfl,WT _ (Kr b o _) c];simp only[c,dB];rw[TI _ (CI b o _) j]
  left;have j:Rf.hex y.toNat=true:=by rw[Og];simp;omega
  refine⟨3,Pg.gU x.toNat*16+Pg.gU y.toNat,?_,?_,Qs,λb o=>?_⟩
  .rw[z,Pg.ii,g,dG w,l,A,dG C];rw[show(k:Int)+2+2=((k+(3+1):Nat):Int) by omega]
  .simp[Rf.one,c,j,Lk _ c,Lk _ j]
  show XP 2 b o [120,x,y]=_;have G:Rf.read 2 b o ((120:UInt8).toNat:Int)=⟨true,3,b,o⟩:=QB b o;rw[Yx _ G rfl rfl,Yx _ (Kr b o _) c rfl];simp only[c,dB];rw[Yx _ (CI b o _) j rfl];simp only[j,dB];rfl
 have a:(d.toNat:Int)≠120:=by
  intro e;exact u (dV.1 (by simpa using (by omega:d.toNat=120)))
 cases hk:((d.toNat:Int)==110 || (d.toNat:Int)==116 || Rf.has Rf.marks d.toNat)
 .right;have f:=hk;rw[Lh]at f;simp only[Bool.or_eq_false_iff,dU]at f;refine⟨1,?_,?_,λb o=>?_⟩
  .unfold Pg.iz;rw[i,dG f.1.1,dG f.1.2,dG a,f.2];rfl
  .unfold Pg.iz;rw[i,dG f.1.1,dG f.1.2,dG a,f.2];simp
  rw[TI _ (Au b o _ a hk) rfl]
 left;have B:∀b o,XP 2 b o ((d::t).take 1)=some (b,b):=λb o=>by
  show XP 2 b o [d]=_;rw[Yx _ (yR b o _ a hk) rfl rfl];rfl
 by_cases m:d=110
 .subst m;exact⟨1,10,by unfold Pg.iz;rw[i,dF Qd,show(k:Int)+2=((k+(1+1):Nat):Int) by omega],by simp[Rf.one],Qs,B⟩
 have p:(d.toNat:Int)≠110:=by
  intro e;exact m (dV.1 (by simpa using (by omega:d.toNat=110)))
 by_cases q:d=116
 .subst q;exact⟨1,9,by unfold Pg.iz;rw[i,dG Qd,dF Qd,show(k:Int)+2=((k+(1+1):Nat):Int) by omega],by simp[Rf.one],Qs,B⟩
 have r:(d.toNat:Int)≠116:=by
  intro e;exact q (dV.1 (by simpa using (by omega:d.toNat=116)))
 have F:Pg.iM d.toNat=true:=by
  rw[<-Lh];simpa[p,r]using hk
 exact⟨1,d.toNat,by unfold Pg.iz;rw[i,dG p,dG r,dG a,F,dF rfl,show(k:Int)+2=((k+(1+1):Nat):Int) by omega],by simp[Rf.one,m,q,u],Qs,B⟩
def Lm(s:ByteArray)(k:Nat):
  (∃(n:Nat) (v:Int),Pg.iK (Y7 s) k=⟨v,((k+(n+1):Nat):Int),true⟩/\Rf.one (s.data.toList.drop k)=some (v,n+1)/\n+1<=(s.data.toList.drop k).length /\
   (∀c r,s.data.toList.drop k=c::r->c≠93/\c≠45/\c≠94) /\
   ∀m m' b o,(∀c r,s.data.toList.drop k=c::r->Rf.read m b o c.toNat=Rf.jx m b o c.toNat m')->∃b',XP m b o ((s.data.toList.drop k).take (n+1))=some (m',b')) \/
  (∃n:Nat,(Pg.iK (Y7 s) k).ok=false/\(Pg.iK (Y7 s) k).n=((k+n:Nat):Int) /\
   ∀m m' b o,1<m->(∀c r,s.data.toList.drop k=c::r->Rf.read m b o c.toNat=Rf.jx m b o c.toNat m')->Rf.jt m b o k (s.data.toList.drop k)=((k+n:Nat):Int)):=by
 rcases hd:s.data.toList.drop k with _|⟨c,r⟩
 .have e0:Y7 s (k:Int)=-1:=Sv hd;right;refine⟨0,?_,?_,λm m' b o l _=>?_⟩
  .simp[Pg.iK,e0,Pg.iN]
  .simp[Pg.iK,e0,Pg.iN]
  rw[Te _ _ _ _ l];simp
 have e0:Y7 s (k:Int)=c.toNat:=by rw[Sv hd];rfl
 by_cases f:c=92
 .subst f;have i:Pg.iK (Y7 s) k=Pg.iz (Y7 s) k:=by rw[Pg.iK,dF (by rw[e0];rfl)]
  rcases RY s k r hd with ⟨n,v,h1,h2,h3,t⟩|⟨n,h1,h2,h3⟩
  .left;refine⟨n,v,by rw[i,h1],h2,Qp,λh q j=>by cases j;decide,λm m' b o d=>⟨m',?_⟩⟩;have g:Rf.read m b o ((92:UInt8).toNat:Int)=⟨true,2,m',o⟩:=by rw[d 92 r rfl];rfl
   rw[ZK,Yx _ g rfl rfl];exact t m' o
  right;refine⟨n,by rw[i,h1],by rw[i,h2],λm m' b o l d=>?_⟩;have g:Rf.read m b o ((92:UInt8).toNat:Int)=⟨true,2,m',o⟩:=by rw[d 92 r rfl];rfl
  rw[WT _ g rfl];exact h3 m' o
 have a:(c.toNat:Int)≠92:=by
  intro e;exact f (dV.1 (by simpa using (by omega:c.toNat=92)))
 have p:=J8 c.toNat Qo a;have g:∀m m' b o,(∀h q,c::r=h::q->Rf.read m b o h.toNat=Rf.jx m b o h.toNat m')->Rf.read m b o c.toNat=Rf.to m b o (Pg.iN c.toNat) m':=λm m' b o d=>by
  rw[d c r rfl,Rf.jx,dG a,p]
 cases hin:Pg.iN c.toNat
 .right;refine⟨0,?_,?_,λm m' b o l d=>?_⟩
  .rw[Pg.iK,e0,dG a,hin];rfl
  .rw[Pg.iK,e0,dG a,hin];simp
  rw[TI _ (g m m' b o d) (by rw[hin];rfl)];simp
 left;refine⟨0,c.toNat,?_,by simp[Rf.one,f],Qs,?_,λm m' b o d=>⟨b,?_⟩⟩
 .rw[Pg.iK,e0,dG a,hin,dF rfl,show(k:Int)+1=((k+(0+1):Nat):Int) by omega]
 .intro h q j;cases j;refine⟨?_,?_,?_⟩<;>(intro e;subst e;simp[Pg.iN]at hin)
 show XP m b o [c]=_;rw[Yx _ (g m m' b o d) (by rw[hin];rfl) rfl,hin];rfl
def Ld(u i:Nat)(fa:Int)(f:N_):Rf.items u [] i fa f=none:=by cases u<;>rfl
def YU(l:List UInt8)(k n:Nat):(l.drop k).drop n=l.drop (k+n):=eC
def FY(s:ByteArray)(k:Nat)(m b o:Int)(Z:1<m)(Y:∀c r,s.data.toList.drop k=c::r->Rf.read m b o c.toNat=Rf.jx m b o c.toNat 11):
  (∃(n:Nat) (lo Y:Int),1<=n/\k+n<=s.size/\Pg.ir (Y7 s) k=⟨lo,Y,((k+n:Nat):Int),true⟩ /\
   (∀u fa f,Rf.items (u+1) (s.data.toList.drop k) k fa f=Rf.items u (s.data.toList.drop (k+n)) (k+n) (if Y<lo/\fa<0 then (k:Int) else fa) (Pg.gY f lo Y)) /\
   ∃m2 b2,XP m b o ((s.data.toList.drop k).take n)=some (m2,b2)/\((m2=11/\∀c r,s.data.toList.drop (k+n)=c::r->c≠45)\/m2=13)) \/
  (∃n:Nat,(Pg.ir (Y7 s) k).ok=false/\(Pg.ir (Y7 s) k).n=((k+n:Nat):Int)/\Rf.jt m b o k (s.data.toList.drop k)=((k+n:Nat):Int)):=by
 rcases Lm s k with ⟨n,v,h1,h2,h3,H,I⟩|⟨n,h1,h2,h3⟩
 .let⟨q,x⟩:=I m 11 b o Y;have C:k+(n+1)<=s.size:=by
   have:(s.data.toList.drop k).length=s.size-k:=Qs
   omega
  obtain⟨c,r,d⟩:∃c r,s.data.toList.drop k=c::r:=by
   rcases hd:s.data.toList.drop k with _|⟨c,r⟩
   .rw[hd]at h3;simp at h3
   exact⟨c,r,rfl⟩
  let⟨l,_,_⟩:=H c r d;have i:s.data.toList.drop k=(s.data.toList.drop k).take (n+1)++s.data.toList.drop (k+(n+1)):=by
   rw[<-YU,eD]
  have A:((s.data.toList.drop k).take (n+1)).length=n+1:=by rw[eE];omega
  have p:(Pg.iK (Y7 s) k).ok=true:=by rw[h1]
  have E:(Pg.iK (Y7 s) k).n=((k+(n+1):Nat):Int):=by rw[h1]
  have F:(Pg.iK (Y7 s) k).v=v:=by rw[h1]
  by_cases h:∃j,s.data.toList.drop (k+(n+1))=45::j
  .let⟨j,g⟩:=h;have a:Y7 s ((k+(n+1):Nat):Int)=45:=by rw[Sv g];rfl
   have t:s.data.toList.drop (k+(n+1)+1)=j:=by rw[<-YU,g];rfl
   have y:Rf.read 11 q o ((45:UInt8).toNat:Int)=⟨true,12,q,o⟩:=Qr
   have z:∀c r,s.data.toList.drop (k+(n+1)+1)=c::r->Rf.read 12 q o c.toNat=Rf.jx 12 q o c.toNat 13:=by
    intro c r _;simp[Rf.read,Rf.rest]
   have w:Pg.ir (Y7 s) k=⟨v,(Pg.iK (Y7 s) (((k+(n+1)+1:Nat)):Int)).v,(Pg.iK (Y7 s) (((k+(n+1)+1:Nat)):Int)).n,(Pg.iK (Y7 s) (((k+(n+1)+1:Nat)):Int)).ok⟩:=by
    rw[Pg.ir,dF p,E,dF a,F];rw[show(((k+(n+1):Nat):Int)+1)=((k+(n+1)+1:Nat):Int) by omega]
   rcases Lm s (k+(n+1)+1)with ⟨n2,v2,g1,g2,g3,g4,g5⟩|⟨n2,g1,g2,g3⟩
   .left;let⟨b2,B⟩:=g5 12 13 q o z;have D:k+(n+1)+1+(n2+1)<=s.size:=by
     have:(s.data.toList.drop (k+(n+1)+1)).length=s.size-(k+(n+1)+1):=Qs
     omega
    refine⟨n+1+1+(n2+1),v,v2,Qo,Qo,?_,λu fa f=>?_,13,b2,?_,Or.inr rfl⟩
    .rw[w,g1,show k+(n+1)+1+(n2+1)=k+(n+1+1+(n2+1)) by omega]
    .rw[d,Rf.items];simp only[dG l];rw[<-d,h2];simp only[YU,g];rw[dF trivial,<-t,g2];simp only[YU];rw[show k+(n+1)+1+(n2+1)=k+(n+1+1+(n2+1)) by omega];rfl
    have G:(s.data.toList.drop k).take (n+1+1+(n2+1))=(s.data.toList.drop k).take (n+1)++(45::(s.data.toList.drop (k+(n+1)+1)).take (n2+1)):=by
     rw[show n+1+1+(n2+1)=(n+1)+(1+(n2+1)) by omega,eF,YU,g,t,show 1+(n2+1)=(n2+1)+1 by omega,ZK]
    rw[G,To _ _ _ _ _ _ x,Yx _ y rfl rfl];exact B
   right;refine⟨n+1+1+n2,by rw[w];exact g1,by rw[w];simp only[g2];omega,?_⟩;rw[i,Tp _ _ _ _ _ _ _ x,A,g,WT _ y rfl,<-t,g3 12 13 q o Qo z];omega
  left;have a:Y7 s ((k+(n+1):Nat):Int)≠45:=by
   rcases hd:s.data.toList.drop (k+(n+1))with _|⟨c2,j⟩
   .rw[Sv hd];simp[at_]
   rw[Sv hd];simp only[at_,dO];intro e;apply h;have:c2=45:=dV.1 (by simpa using (by omega:c2.toNat=45));exact⟨j,by rw[hd,this]⟩
  refine⟨n+1,v,v,Qo,C,?_,λu fa f=>?_,11,q,x,Or.inl ⟨rfl,?_⟩⟩
  .rw[Pg.ir,dF p,E,dG a,F]
  .rw[d,Rf.items];simp only[dG l];rw[<-d,h2];simp only[YU];rcases hd:s.data.toList.drop (k+(n+1))with _|⟨c2,j⟩
   .rw[Ld]
   simp only;rw[dG (λe=>h ⟨j,by rw[hd,e]⟩),g_];rfl
  intro c2 j J e;exact h ⟨j,by rw[J,e]⟩
 right;refine⟨n,?_,?_,h3 m 11 b o Z Y⟩
 .rw[Pg.ir,h1];rfl
 rw[Pg.ir,h1];exact h2
def Xu{c:UInt8}{r:List UInt8}(h:s.data.toList.drop k=c::r):k<s.size:=by
 rcases ZD k s.size with a|a
 .exact a
 rw[dT (by simpa using a)]at h;cases h
def Ru(l:List UInt8)(k n j:Nat):(l.drop k).take (n+j)=(l.drop k).take n++(l.drop (k+n)).take j:=by
 rw[eF,eC]
def MZ(s:ByteArray)(first:Nat)(o:Int):∀(u k:Nat) (fa:Int) (f:N_) (m b:Int),s.size<u+k->k<=s.size->-1<=fa ->
  ((k=first/\(m=10\/(m=9/\∀c r,s.data.toList.drop k=c::r->c≠94)))\/(first<k/\((m=11/\∀c r,s.data.toList.drop k=c::r->c≠45)\/m=13))) ->
  (∃(j:Nat) (F:N_) (FA:Int),k<=j/\j<s.size/\Pg.gK (Y7 s) s.size first u k fa f=⟨(j:Int)+1,true,F,FA⟩/\-1<=FA/\(∀v,s.size<v+k->Rf.items v (s.data.toList.drop k) k fa f=some (j,FA,F))/\∃b',XP m b o ((s.data.toList.drop k).take (j+1-k))=some (1,b')) \/
  ((Pg.gK (Y7 s) s.size first u k fa f).ok=false/\Rf.jt m b o k (s.data.toList.drop k)=(Pg.gK (Y7 s) s.size first u k fa f).n):=by
 intro u
 induction u with
 |zero=>intro k fa f m b h1 h2;omega
 |succ u ih=>
  intro k fa f m b hu hk D a;have z:1<m:=by rcases a with ⟨_,h|h⟩|⟨_,h|h⟩<;>omega
  rcases hd:s.data.toList.drop k with _|⟨c,r⟩
  .right;have H:k=s.size:=by
    have:s.size<=k:=by simpa using hd
    omega
   have E:¬(k:Int)<(s.size:Int):=Qo
   rw[Pg.gK,dG E];refine⟨rfl,?_⟩;rw[Te _ _ _ _ z,H]
  have I:=Xu hd;have q:(k:Int)<(s.size:Int):=Qo
  have w:Y7 s (k:Int)=c.toNat:=by rw[Sv hd];rfl
  by_cases g:c=93/\first<k
  .left;obtain⟨rfl,C⟩:=g;have W:m=11\/m=13:=by
    rcases a with ⟨h,_⟩|⟨_,h|h⟩
    .omega
    .exact Or.inl h.1
    exact Or.inr h
   refine⟨k,f,fa,Zg _,I,?_,D,λv Y=>?_,b,?_⟩
   .rw[Pg.gK,dF q,dF ⟨by rw[w];rfl,Qo⟩]
   .rcases v with _|v
    .omega
    rfl
   rw[show k+1-k=1 by omega];show XP m b o [93]=_;have Z:Rf.read m b o ((93:UInt8).toNat:Int)=⟨true,1,b,o⟩:=by
    rcases W with rfl|rfl<;>rfl
   rw[Yx _ Z rfl rfl];rfl
  have hi:∀B P,s.data.toList.drop k=B::P->Rf.read m b o B.toNat=Rf.jx m b o B.toNat 11:=by
   intro B P O;rw[hd]at O;cases O;have ne:∀d:UInt8,c≠d->(c.toNat:Int)≠d.toNat:=λd h e=>h (dV.1 Qo)
   rcases a with ⟨_,h|⟨h,h2⟩⟩|⟨C,⟨h,h2⟩|h⟩
   .subst h;simp[Rf.read,Rf.rest]
   .subst h;have:=ne 94 (h2 c r hd);have V:(c.toNat:Int)≠94:=this;simp only[Rf.read,Rf.rest];rw[dG V];simp
   .subst h;have h1:(c.toNat:Int)≠45:=ne 45 (h2 c r hd);have h3:(c.toNat:Int)≠93:=ne 93 (λe=>g ⟨e,C⟩);simp only[Rf.read,Rf.rest];rw[dG h1,dG h3];simp
   subst h;have h3:(c.toNat:Int)≠93:=ne 93 (λe=>g ⟨e,C⟩);simp only[Rf.read,Rf.rest];rw[dG h3];simp
  have L:¬(Y7 s (k:Int)=93/\(first:Int)<k):=by
   rintro ⟨h1,h2⟩;rw[w]at h1;exact g ⟨dV.1 (by simpa using (by omega:c.toNat=93)),Qo⟩
  have N:Pg.gK (Y7 s) s.size first (u+1) k fa f=if (Pg.ir (Y7 s) k).ok then Pg.gK (Y7 s) s.size first u (Pg.ir (Y7 s) k).n (if (Pg.ir (Y7 s) k).hi<(Pg.ir (Y7 s) k).lo/\fa=-1 then (k:Int) else fa) (Pg.gY f (Pg.ir (Y7 s) k).lo (Pg.ir (Y7 s) k).hi) else ⟨(Pg.ir (Y7 s) k).n,false,f,fa⟩:=by
   rw[Pg.gK,dF q,dG L]
  rcases FY s k m b o z hi with ⟨n,lo,l,X,K,G,p,m2,Q,A,J⟩|⟨n,h1,h2,h3⟩
  .have t:Pg.gK (Y7 s) s.size first (u+1) k fa f=Pg.gK (Y7 s) s.size first u ((k+n:Nat):Int) (if l<lo/\fa<0 then (k:Int) else fa) (Pg.gY f lo l):=by
    rw[N,G];simp only[dB];have:(fa=-1)<->(fa<0):=Qo
    simp only[this]
   have x:-1<=(if l<lo/\fa<0 then (k:Int) else fa):=by split<;>omega
   have i:((k+n=first/\(m2=10\/(m2=9/\∀c r,s.data.toList.drop (k+n)=c::r->c≠94)))\/(first<k+n/\((m2=11/\∀c r,s.data.toList.drop (k+n)=c::r->c≠45)\/m2=13))):=by
    right;refine⟨?_,J⟩;rcases a with ⟨h,_⟩|⟨h,_⟩<;>omega
   rcases ih (k+n) _ (Pg.gY f lo l) m2 Q Qo K x i with ⟨j,F,FA,g1,g2,R,S,T,b',U⟩|⟨g1,g2⟩
   .left;refine⟨j,F,FA,Qo,g2,by rw[t,R],S,λv Y=>?_,b',?_⟩
    .rcases v with _|v
     .omega
     rw[<-hd,p];exact T v Qo
    rw[<-hd,show j+1-k=n+(j+1-(k+n)) by omega,Ru,To _ _ _ _ _ _ A];exact U
   right;refine⟨by rw[t];exact g1,?_⟩;have M:s.data.toList.drop k=(s.data.toList.drop k).take n++s.data.toList.drop (k+n):=by rw[<-YU,eD]
   have y:((s.data.toList.drop k).take n).length=n:=by rw[eE];simp;omega
   rw[t,<-g2,<-hd];rw[M,Tp _ _ _ _ _ _ _ A,y]
  right;rw[N,h1];refine⟨rfl,?_⟩;rw[<-hd];simp only[h2];exact h3
def PI(s:ByteArray)(i:Nat)(t:List UInt8)(m b o:Int)(J:m=0\/m=1)(h:s.data.toList.drop i=91::t):
  (∃(n:Nat) (F:N_) (H:Int),i+2<=n/\n<=s.size/\Pg.gM (Y7 s) s.size i=⟨(n:Int),true,F,H⟩/\Rf.set t i=some (n,H,F)/\-1<=H/\∃b',XP m b o ((s.data.toList.drop i).take (n-i))=some (1,b')) \/
  ((Pg.gM (Y7 s) s.size i).ok=false/\Rf.jt m b o i (s.data.toList.drop i)=(Pg.gM (Y7 s) s.size i).n):=by
 have A:=Xu h;have w:Rf.read m b o ((91:UInt8).toNat:Int)=⟨true,9,b,o⟩:=by rcases J with rfl|rfl<;>rfl
 have a:s.data.toList.drop (i+1)=t:=by rw[<-YU,h];rfl
 by_cases d:∃r,t=94::r
 .obtain⟨r,rfl⟩:=d;have y:=Xu a;have l:s.data.toList.drop (i+2)=r:=by rw[show i+2=i+1+1 by omega,<-YU,a];rfl
  have x:Y7 s ((i:Int)+1)=94:=by rw[Ia h];rfl
  have p:Rf.read 9 b o ((94:UInt8).toNat:Int)=⟨true,10,b,o⟩:=rfl;have v:r.length=s.size-(i+2):=by rw[<-l];simp
  have g:Pg.gM (Y7 s) s.size i=⟨(Pg.gK (Y7 s) s.size ((i+2:Nat):Int) (s.size+1) ((i+2:Nat):Int) (-1) (λ_=>false)).n,(Pg.gK (Y7 s) s.size ((i+2:Nat):Int) (s.size+1) ((i+2:Nat):Int) (-1) (λ_=>false)).ok,λk=>!(Pg.gK (Y7 s) s.size ((i+2:Nat):Int) (s.size+1) ((i+2:Nat):Int) (-1) (λ_=>false)).f k,(Pg.gK (Y7 s) s.size ((i+2:Nat):Int) (s.size+1) ((i+2:Nat):Int) (-1) (λ_=>false)).fa⟩:=by
   rw[Pg.gM,dF x];rfl
  rcases MZ s (i+2) o (s.size+1) (i+2) (-1) (λ_=>false) 10 b Qo Qo Qo (Or.inl ⟨rfl,Or.inl rfl⟩)with ⟨j,F,H,g1,g2,g3,g4,g5,b',g6⟩|⟨g1,g2⟩
  .left;refine⟨j+1,λk=>!F k,H,Qo,Qo,by rw[g,g3];rfl,?_,g4,b',?_⟩
   .have:=g5 (r.length+1) Qo;rw[l]at this;simp only[Rf.set,dB,this,dX];simp
   rw[show j+1-i=2+(j+1-(i+2)) by omega,Ru,h];show XP m b o (91::94::((s.data.toList.drop (i+2)).take (j+1-(i+2))))=_;rw[Yx _ w rfl rfl,Yx _ p rfl rfl];exact g6
  right;refine⟨by rw[g];exact g1,?_⟩;rw[h,WT _ w rfl,WT _ p rfl,g];simp only[<-g2,l]
 have x:Y7 s ((i:Int)+1)≠94:=by
  rw[Ia h];rcases t with _|⟨c,r⟩
  .simp[at_]
  simp only[at_,eG,dO];intro e;exact d ⟨r,by rw[show c=94 from dV.1 (by simpa using (by omega:c.toNat=94))]⟩
 have g:Pg.gM (Y7 s) s.size i=Pg.gK (Y7 s) s.size ((i+1:Nat):Int) (s.size+1) ((i+1:Nat):Int) (-1) (λ_=>false):=by
  rw[Pg.gM,dG x];rfl
 have u:∀c r,s.data.toList.drop (i+1)=c::r->c≠94:=by
  intro c r z e;exact d ⟨r,by rw[<-a,z,e]⟩
 rcases MZ s (i+1) o (s.size+1) (i+1) (-1) (λ_=>false) 9 b Qo Qo Qo (Or.inl ⟨rfl,Or.inr ⟨rfl,u⟩⟩)with ⟨j,F,H,g1,g2,g3,g4,g5,b',g6⟩|⟨g1,g2⟩
 .left;refine⟨j+1,F,H,Qo,Qo,by rw[g,g3];rfl,?_,g4,b',?_⟩
  .rcases t with _|⟨c,r⟩
   .rw[a]at g5;have:=g5 (s.size+1) Qo;rw[Ld]at this;cases this
   have v:(c::r).length=s.size-(i+1):=by rw[<-a];simp
   have:=g5 (r.length+2) (by simp at v;omega);rw[a]at this;have q:=u c r a;simp only[Rf.set,dG q,this,dX];simp
  rw[show j+1-i=1+(j+1-(i+1)) by omega,Ru,h];show XP m b o (91::((s.data.toList.drop (i+1)).take (j+1-(i+1))))=_;rw[Yx _ w rfl rfl];exact g6
 right;refine⟨by rw[g];exact g1,?_⟩;rw[h,WT _ w rfl,g,<-g2,a]
def WV(kd:Int):Int:=if Pg.hJ kd then 1 else 0
def KR(s:ByteArray)(k:Nat)(m b op kd:Int):Prop:=
 ∃(n:Nat) (F:Nat->Bool) (mo fa b':Int),1<=n/\k+n<=s.size/\Pg.gV (Y7 s) s.size k kd=⟨((k+n:Nat):Int),true,F,mo,fa⟩ /\
  Rf.jt m b op k (s.data.toList.drop k)=Rf.jt (WV kd) b' (Pg.iR kd op) (k+n) (s.data.toList.drop (k+n)) /\
  (op<=6->Rf.i6 m b op k (s.data.toList.drop k)=if 6<Pg.iR kd op then (k:Int) else Rf.i6 (WV kd) b' (Pg.iR kd op) (k+n) (s.data.toList.drop (k+n))) /\
  -1<=fa /\
  (∃c,∀v,Rf.je s.data.toList (v+c) k=if fa=-1 then Rf.je s.data.toList v (k+n) else some fa) /\
  (∃c,∀v,Rf.js s.data.toList (v+c) k=if kd=1/\Rf.i4 F 256=0 then some (k:Int) else Rf.js s.data.toList v (k+n))
def Ww{m b op H:Int}(J:k+n<=s.size)(z:XP m b op ((s.data.toList.drop k).take n)=some (H,b')):
  Rf.jt m b op k (s.data.toList.drop k)=Rf.jt H b' op (k+n) (s.data.toList.drop (k+n))/\(op<=6->Rf.i6 m b op k (s.data.toList.drop k)=if 6<op then (k:Int) else Rf.i6 H b' op (k+n) (s.data.toList.drop (k+n))):=by
 have c:s.data.toList.drop k=(s.data.toList.drop k).take n++s.data.toList.drop (k+n):=by rw[<-YU,eD]
 have a:((s.data.toList.drop k).take n).length=n:=by rw[eE];simp;omega
 constructor
 .have:=Tp _ _ _ _ _ k (s.data.toList.drop (k+n)) z;rw[a,<-c]at this;exact this
 intro d;have:=NH d _ _ _ _ _ k (s.data.toList.drop (k+n)) z;rw[a,<-c]at this;rw[g_];exact this
def Yr{c d:UInt8}(h:c≠d):(c.toNat:Int)≠(d.toNat:Int):=λe=>h (dV.1 Qo)
def Ig(v:Int)(h0:0<=v)(h1:v<256):Rf.i4 (Pg.gY (λ_=>false) v v) 256≠0:=by
 obtain⟨n,rfl⟩:=ZA h0;have:∀(f:N_) (k:Nat),f k=true->∀n,k<n->0<Rf.i4 f n:=by
  intro f k a n
  induction n with
  |zero=>intro h;omega
  |succ n ih=>
   intro h;unfold Rf.i4;by_cases e:k=n
   .subst e;simp[a]
   have:=ih Qo;omega
 have:=this (Pg.gY (λ_=>false) (n:Int) (n:Int)) n (by simp[Pg.gY]) 256 Qo;omega
def zK:Rf.i4 (λk=>!(Pg.gY (λ_=>false) 10 10 k)) 256≠0:=by decide +kernel
def Wy{l:List UInt8}{c:UInt8}{r:List UInt8}(z:l.drop k=c::r)(h1:c≠92)(h2:c≠91)(h3:c≠123)(v:Nat):Rf.je l (v+1) k=Rf.je l v (k+1):=by
 rw[Rf.je,z];simp only[dG h1,dG h2,dG h3]
def Xe{l:List UInt8}{c:UInt8}{r:List UInt8}(z:l.drop k=c::r)(h1:c≠92)(h2:c≠91)(v:Nat):Rf.js l (v+1) k=Rf.js l v (k+1):=by
 rw[Rf.js,z];simp only[dG h1,dG h2]
def AD(s:ByteArray)(k:Nat)(t:List UInt8)(m b op:Int)(H:m=0\/m=1)(z:s.data.toList.drop k=91::t):
  KR s k m b op 1\/((Pg.gV (Y7 s) s.size k 1).ok=false/\Rf.jt m b op k (s.data.toList.drop k)=(Pg.gV (Y7 s) s.size k 1).n):=by
 have i:Y7 s (k:Int)=91:=by rw[Sv z];rfl
 have c:Pg.gV (Y7 s) s.size k 1=⟨(Pg.gM (Y7 s) s.size k).n,(Pg.gM (Y7 s) s.size k).ok,(Pg.gM (Y7 s) s.size k).f,0,(Pg.gM (Y7 s) s.size k).fa⟩:=by
  rw[Pg.gV,dF rfl,Pg.iC,dF i]
 rcases PI s k t m b op H z with ⟨n,F,a,h1,h2,h3,d,g,b',h⟩|⟨h1,h2⟩
 .left;let⟨g1,g2⟩:=Ww (n:=n-k) Qo h;rw[show k+(n-k)=n by omega]at g1 g2;refine⟨n-k,F,0,a,b',Qo,Qo,?_,?_,?_,g,⟨1,λv=>?_⟩,⟨1,λv=>?_⟩⟩
  .rw[c,h3,show k+(n-k)=n by omega]
  .rw[show k+(n-k)=n by omega];exact g1
  .rw[show k+(n-k)=n by omega];exact g2
  .rw[show k+(n-k)=n by omega,Rf.je,z];simp only[d];by_cases e:a=-1
   .subst e;simp
   simp[e,show 0<=a by omega]
  rw[show k+(n-k)=n by omega,Rf.js,z];simp[d]
 right;exact⟨by rw[c];exact h1,by rw[c];exact h2⟩
def AC(s:ByteArray)(k:Nat)(t:List UInt8)(m b op:Int)(H:m=0\/m=1)(z:s.data.toList.drop k=92::t):
  KR s k m b op 1\/((Pg.gV (Y7 s) s.size k 1).ok=false/\Rf.jt m b op k (s.data.toList.drop k)=(Pg.gV (Y7 s) s.size k 1).n):=by
 have d:Y7 s (k:Int)=92:=by rw[Sv z];rfl
 have c:Pg.gV (Y7 s) s.size k 1=⟨(Pg.iz (Y7 s) k).n,(Pg.iz (Y7 s) k).ok,Pg.gY (λ_=>false) (Pg.iz (Y7 s) k).v (Pg.iz (Y7 s) k).v,0,-1⟩:=by
  rw[Pg.gV,dF rfl,Pg.iC,dG (by rw[d];decide),dG (by rw[d];decide),dF d]
 have h2:Rf.read m b op ((92:UInt8).toNat:Int)=⟨true,2,1,op⟩:=by rcases H with rfl|rfl<;>rfl
 rcases RY s k t z with ⟨n,v,h1,h3,f,h⟩|⟨n,h1,h3,f⟩
 .left;have g:t.length+1=s.size-k:=by
   have:(s.data.toList.drop k).length=s.size-k:=Qs
   rw[z]at this;simpa using this
  have e:XP m b op ((s.data.toList.drop k).take (n+1))=some (1,1):=by
   rw[z,ZK,Yx _ h2 rfl rfl];exact h 1 op
  have a:=Rf.jr h3;have i:=Xu z;let⟨g1,g2⟩:=Ww (n:=n+1) Qo e;refine⟨n+1,Pg.gY (λ_=>false) v v,0,-1,1,Qo,Qo,by rw[c,h1],g1,g2,Qo,⟨1,λv'=>?_⟩,⟨1,λv'=>?_⟩⟩
  .rw[Rf.je,z];simp only[h3];simp
  rw[Rf.js,z];simp only[h3];simp[Ig v a.1 a.2.1]
 right;refine⟨by rw[c];exact h1,?_⟩;rw[c,z,WT _ h2 rfl,f 1 op];exact h3.symm
def Ue(s:ByteArray)(k:Nat)(c:UInt8)(r:List UInt8)(m b op kd:Int)(F:N_)(x:Rf.RS)(z:s.data.toList.drop k=c::r)(Y:c≠92)(J:c≠91)(H:c≠123)
  (hx:Rf.read m b op c.toNat=x) (ab:x.ok=true) (Z:x.m=WV kd) (aa:x.o=Pg.iR kd op) (hp:Pg.gV (Y7 s) s.size k kd=⟨(k:Int)+1,true,F,0,-1⟩) (hc:¬(kd=1/\Rf.i4 F 256=0)):KR s k m b op kd:=by
 have d:=Xu z;have a:s.data.toList.drop (k+1)=r:=by rw[<-YU,z];rfl
 refine⟨1,F,0,-1,x.bk,Qo,Qo,by rw[hp];rfl,?_,λ_=>?_,Qo,⟨1,λv=>?_⟩,⟨1,λv=>?_⟩⟩
 .rw[z,WT x hx ab,Z,aa,a]
 .rw[z,Rf.i6,hx,Z,aa,a]
 .rw[Wy z Y J H];simp
 rw[Xe z Y J,dG hc]
def Gv(b o c:Int):Rf.read 5 b o c=⟨Rf.iT c,if Rf.iT c then 6 else 5,b,o⟩:=by simp[Rf.read,Rf.to]
def Av(b o:Int):Rf.read 6 b o 44=⟨true,7,b,o⟩:=by simp[Rf.read]
def CJ(b o c:Int)(h:c≠44):Rf.read 6 b o c=⟨c==125,if (c==125)=true then 1 else 6,b,o⟩:=by simp only[Rf.read,Rf.to,dG h];rfl
def Ks(b o c:Int):Rf.read 7 b o c=⟨Rf.iT c,if Rf.iT c then 8 else 7,b,o⟩:=by simp[Rf.read,Rf.to]
def CL(b o c:Int):Rf.read 8 b o c=⟨c==125,if (c==125)=true then 1 else 8,b,o⟩:=by simp only[Rf.read,Rf.to];rfl
def RE(c:Int)(h:¬Pg.iI c<0):Pg.iI c=c-48/\48<=c/\c<=57:=by
 unfold Pg.iI at h ⊢;split
 .rename_i h1;exact⟨rfl,h1.1,h1.2⟩
 rename_i h1;rw[dG h1]at h;omega
def zv(t:List UInt8)(n:Nat)(mo le:Int):Prop:=
 (∃x r,t=x::125::r/\n=3/\48<=(x.toNat:Int)/\(x.toNat:Int)<=57/\mo=(x.toNat:Int)-48/\le=(x.toNat:Int)-48) \/
 (∃x z r,t=x::44::z::125::r/\n=5/\48<=(x.toNat:Int)/\(x.toNat:Int)<=57/\48<=(z.toNat:Int)/\(z.toNat:Int)<=57/\mo=(z.toNat:Int)-48/\le=(x.toNat:Int)-48)
def OO(s:ByteArray)(k:Nat)(t:List UInt8)(b o:Int)(Y:s.data.toList.drop k=123::t):
  (∃(n:Nat) (mo le:Int),Pg.iB (Y7 s) k=⟨mo,((k+n:Nat):Int),true⟩/\Pg.iI (Y7 s ((k:Int)+1))=le/\zv t n mo le/\XP 1 b o ((123::t).take n)=some (1,b)) \/
  ((Pg.iB (Y7 s) k).ok=false/\Rf.jt 1 b o k (123::t)=(Pg.iB (Y7 s) k).n):=by
 have F:=Ia Y;have e2:=zi Y;have G:=zj Y;have H:=xZ Y;have I:(k:Int)+2+1=(k:Int)+3:=Qo
 have J:(k:Int)+2+2=(k:Int)+4:=Qo
 have B:Rf.read 1 b o ((123:UInt8).toNat:Int)=⟨true,5,b,o⟩:=rfl;rcases t with _|⟨x,t⟩
 .right;have A:Pg.iI (Y7 s ((k:Int)+1))<0:=by rw[F];simp[at_,Pg.iI]
  rw[Pg.iB,dF A];refine⟨rfl,?_⟩;rw[WT _ B rfl,Te _ _ _ _ Qs];first|(simp;done)|(simp;omega)|omega
 have h:Y7 s ((k:Int)+1)=x.toNat:=by rw[F];rfl
 by_cases A:Pg.iI x.toNat<0
 .right;have e:Rf.iT x.toNat=false:=by rw[RV];simp;omega
  rw[Pg.iB,h,dF A];refine⟨rfl,?_⟩;rw[WT _ B rfl,TI _ (Gv b o _) e];first|(simp;done)|(simp;omega)|omega
 have e:Rf.iT x.toNat=true:=by rw[RV];simp;omega
 let⟨x1,x2,x3⟩:=RE _ A;have C:Pg.iB (Y7 s) k=Pg.gR (Y7 s) ((k:Int)+2) ((x.toNat:Int)-48):=by rw[Pg.iB,h,dG A,x1]
 have d:∀r,Rf.jt 1 b o k (123::x::r)=Rf.jt 6 b o (k+2) r:=λr=>by
  rw[WT _ B rfl,WT _ (Gv b o _) e];simp only[e,dB]
 have w:∀r,XP 1 b o (123::x::r)=XP 6 b o r:=λr=>by
  rw[Yx _ B rfl rfl,Yx _ (Gv b o _) e rfl];simp only[e,dB]
 rcases t with _|⟨y,t⟩
 .right;have K:Y7 s ((k:Int)+2)=-1:=by rw[e2];rfl
  rw[C,Pg.gR,K];refine⟨rfl,?_⟩;rw[d,Te _ _ _ _ Qs];first|(simp;done)|(simp;omega)|omega
 have m:Y7 s ((k:Int)+2)=y.toNat:=by rw[e2];rfl
 by_cases f:y=125
 .subst f;left;refine⟨3,(x.toNat:Int)-48,(x.toNat:Int)-48,?_,by rw[h,x1],Or.inl ⟨x,t,rfl,rfl,x2,x3,rfl,rfl⟩,?_⟩
  .rw[C,Pg.gR,m,dF Qd,show(k:Int)+2+1=((k+3:Nat):Int) by omega]
  show XP 1 b o [123,x,125]=_;rw[w,Yx _ (CJ b o _ Qd) Qr rfl];rfl
 have j:=Yr f;have a:(y.toNat:Int)≠125:=j;by_cases l:y=44
 .subst l;have q:Rf.read 6 b o ((44:UInt8).toNat:Int)=⟨true,7,b,o⟩:=Av b o;have u:Pg.iB (Y7 s) k=if Pg.iI (Y7 s ((k:Int)+3))<0 then ⟨0,(k:Int)+3,false⟩ else if Y7 s ((k:Int)+4)=125 then ⟨Pg.iI (Y7 s ((k:Int)+3)),(k:Int)+2+3,true⟩ else ⟨0,(k:Int)+4,false⟩:=by
   rw[C,Pg.gR,m,dG Qd,dF Qd,I,J]
  rcases t with _|⟨z,t⟩
  .right;have hz:Pg.iI (Y7 s ((k:Int)+3))<0:=by rw[G];simp[at_,Pg.iI]
   rw[u,dF hz];refine⟨rfl,?_⟩;rw[d,WT _ q rfl,Te _ _ _ _ Qs];first|(simp;done)|(simp;omega)|omega
  have i:Y7 s ((k:Int)+3)=z.toNat:=by rw[G];rfl
  by_cases hz:Pg.iI z.toNat<0
  .right;have c:Rf.iT z.toNat=false:=by rw[RV];simp;omega
   rw[u,i,dF hz];refine⟨rfl,?_⟩;rw[d,WT _ q rfl,TI _ (Ks b o _) c];first|(simp;done)|(simp;omega)|omega
  have c:Rf.iT z.toNat=true:=by rw[RV];simp;omega
  let⟨L,M,N⟩:=RE _ hz;rcases t with _|⟨E,t⟩
  .right;have D:Y7 s ((k:Int)+4)=-1:=by rw[H];rfl
   rw[u,i,dG hz,D,dG Qd];refine⟨rfl,?_⟩;rw[d,WT _ q rfl,WT _ (Ks b o _) c];simp only[c,dB];rw[Te _ _ _ _ Qs];first|(simp;done)|(simp;omega)|omega
  have p:Y7 s ((k:Int)+4)=E.toNat:=by rw[H];rfl
  by_cases D:E=125
  .subst D;left;refine⟨5,(z.toNat:Int)-48,(x.toNat:Int)-48,?_,by rw[h,x1],Or.inr ⟨x,z,t,rfl,rfl,x2,x3,M,N,rfl,rfl⟩,?_⟩
   .rw[u,i,dG hz,p,dF Qd,L,show(k:Int)+2+3=((k+5:Nat):Int) by omega]
   show XP 1 b o [123,x,44,z,125]=_;rw[w,Yx _ q rfl rfl,Yx _ (Ks b o _) c rfl];simp only[c,dB];rw[Yx _ (CL b o _) Qr rfl];rfl
  right;have v:(E.toNat:Int)≠125:=Yr D;rw[u,i,dG hz,p,dG v];refine⟨rfl,?_⟩;rw[d,WT _ q rfl,WT _ (Ks b o _) c];simp only[c,dB];rw[TI _ (CL b o _) (by simpa using v)];first|(simp;done)|(simp;omega)|omega
 right;have g:(y.toNat:Int)≠44:=Yr l;rw[C,Pg.gR,m,dG a,dG g];refine⟨rfl,?_⟩;rw[d,TI _ (CJ b o _ g) (by simpa using a)];first|(simp;done)|(simp;omega)|omega
def VL{x:UInt8}(h0:48<=(x.toNat:Int))(h1:(x.toNat:Int)<=57):x≠92/\x≠91/\x≠123:=by
 refine⟨?_,?_,?_⟩<;>(intro e;subst e;revert h0 h1;decide)
def EL(s:ByteArray)(k:Nat)(t:List UInt8)(b op:Int)(H:s.data.toList.drop k=123::t):
  KR s k 1 b op 8\/((Pg.gV (Y7 s) s.size k 8).ok=false/\Rf.jt 1 b op k (s.data.toList.drop k)=(Pg.gV (Y7 s) s.size k 8).n):=by
 have m:Pg.gV (Y7 s) s.size k 8=⟨(Pg.iB (Y7 s) k).n,(Pg.iB (Y7 s) k).ok,λ_=>false,(Pg.iB (Y7 s) k).v,Pg.gZ (Y7 s) k⟩:=rfl;have c:(s.data.toList.drop k).length=s.size-k:=Qs
 rw[H]at c;rcases OO s k t b op H with ⟨n,mo,le,h1,h2,h3,y⟩|⟨h1,h2⟩
 .left;have C:=Xu H;have o:1<=n/\k+n<=s.size:=by
   rcases h3 with ⟨x,r,rfl,rfl,_⟩|⟨x,z,r,rfl,rfl,_⟩<;>(simp at c;omega)
  have B:Pg.gZ (Y7 s) k=if mo<le then (k:Int) else -1:=by rw[Pg.gZ,h1,h2]
  rw[<-H]at y;let⟨g1,g2⟩:=Ww o.2 y;refine⟨n,λ_=>false,mo,if mo<le then (k:Int) else -1,b,o.1,o.2,by rw[m,h1,B],g1,g2,by split<;>omega,?_,?_⟩
  .rcases h3 with ⟨x,r,rfl,rfl,x1,x2,rfl,rfl⟩|⟨x,z,r,rfl,rfl,x1,x2,u,w,rfl,rfl⟩
   .have e:s.data.toList.drop (k+1)=x::125::r:=by rw[<-YU,H];rfl
    have f:s.data.toList.drop (k+2)=125::r:=by rw[<-YU,H];rfl
    let⟨g,h,i⟩:=VL x1 x2;refine⟨3,λv=>?_⟩;have a:(if (x.toNat:Int)-48<(x.toNat:Int)-48 then (k:Int) else -1)=-1:=g_;simp only[a,dB];rw[show v+3=v+2+1 by omega,Rf.je,H];simp only;rw[dG Qd,dG Qd,dF trivial,dG Qd];rw[show v+2=v+1+1 by omega,Wy e g h i,Wy f Qd Qd Qd]
   have e:s.data.toList.drop (k+1)=x::44::z::125::r:=by rw[<-YU,H];rfl
   have f:s.data.toList.drop (k+2)=44::z::125::r:=by rw[<-YU,H];rfl
   have j:s.data.toList.drop (k+3)=z::125::r:=by rw[<-YU,H];rfl
   have l:s.data.toList.drop (k+4)=125::r:=by rw[<-YU,H];rfl
   let⟨g,h,i⟩:=VL x1 x2;let⟨p,q,A⟩:=VL u w;refine⟨5,λv=>?_⟩;rw[show v+5=v+4+1 by omega,Rf.je,H];simp only;rw[dG Qd,dG Qd,dF trivial,dF trivial];by_cases d:z.toNat<x.toNat
   .have a:(if (z.toNat:Int)-48<(x.toNat:Int)-48 then (k:Int) else -1)=k:=p_;rw[dF d,a,g_]
   have a:(if (z.toNat:Int)-48<(x.toNat:Int)-48 then (k:Int) else -1)=-1:=g_;rw[dG d];simp only[a,dB];rw[show v+4=v+3+1 by omega,Wy e g h i,show v+3=v+2+1 by omega,Wy f Qd Qd Qd,show v+2=v+1+1 by omega,Wy j p q A,Wy l Qd Qd Qd]
  rcases h3 with ⟨x,r,rfl,rfl,x1,x2,rfl,rfl⟩|⟨x,z,r,rfl,rfl,x1,x2,u,w,rfl,rfl⟩
  .have e:s.data.toList.drop (k+1)=x::125::r:=by rw[<-YU,H];rfl
   have f:s.data.toList.drop (k+2)=125::r:=by rw[<-YU,H];rfl
   let⟨g,h,i⟩:=VL x1 x2;refine⟨3,λv=>?_⟩;rw[g_,show v+3=v+2+1 by omega,Xe H Qd Qd,show v+2=v+1+1 by omega,Xe e g h,Xe f Qd Qd]
  have e:s.data.toList.drop (k+1)=x::44::z::125::r:=by rw[<-YU,H];rfl
  have f:s.data.toList.drop (k+2)=44::z::125::r:=by rw[<-YU,H];rfl
  have j:s.data.toList.drop (k+3)=z::125::r:=by rw[<-YU,H];rfl
  have l:s.data.toList.drop (k+4)=125::r:=by rw[<-YU,H];rfl
  let⟨g,h,i⟩:=VL x1 x2;let⟨p,q,A⟩:=VL u w;refine⟨5,λv=>?_⟩;rw[g_,show v+5=v+4+1 by omega,Xe H Qd Qd,show v+4=v+3+1 by omega,Xe e g h,show v+3=v+2+1 by omega,Xe f Qd Qd,show v+2=v+1+1 by omega,Xe j p q,Xe l Qd Qd]
 right;refine⟨by rw[m];exact h1,?_⟩;rw[m,H];exact h2
def CM{m:Int}(b o c:Int)(z:m=0\/m=1):Rf.read m b o c=Rf.jo m b o c:=by
 rcases z with rfl|rfl<;>simp[Rf.read,Rf.rest]
def xD(s:ByteArray)(k:Nat)(m b op before:Int):Prop:=
 (Pg.gX (Pg.hY (Y7 s k)) before op=false/\Rf.jt m b op k (s.data.toList.drop k)=(k:Int)) \/
 (Pg.gX (Pg.hY (Y7 s k)) before op=true/\(KR s k m b op (Pg.hY (Y7 s k)) \/
  ((Pg.gV (Y7 s) s.size k (Pg.hY (Y7 s k))).ok=false/\Rf.jt m b op k (s.data.toList.drop k)=(Pg.gV (Y7 s) s.size k (Pg.hY (Y7 s k))).n)))
def yn(s:ByteArray)(k:Nat)(c:UInt8)(r:List UInt8)(m b op Y:Int)(Z:s.data.toList.drop k=c::r)(aa:m=WV Y):xD s k m b op Y:=by
 have L:m=0\/m=1:=by rw[aa,WV];split<;>simp
 have H:Y7 s (k:Int)=c.toNat:=by rw[Sv Z];rfl
 have a:Rf.read m b op c.toNat=Rf.jo m b op c.toNat:=CM _ _ _ L;have f:∀kd:Int,kd≠1->kd≠8->Pg.gV (Y7 s) s.size k kd=⟨(k:Int)+1,true,λ_=>false,0,-1⟩:=λkd h1 T=>by rw[Pg.gV,dG h1,dG T]
 unfold xD;rw[H];by_cases g:c=91
 .subst g;right;exact⟨rfl,AD s k r m b op L Z⟩
 by_cases i:c=92
 .subst i;right;exact⟨rfl,AC s k r m b op L Z⟩
 by_cases d:c=123
 .subst d;cases hep:Pg.hJ Y
  .left;have v:m=0:=by rw[aa,WV,hep];rfl
   subst v;refine⟨?_,?_⟩
   .show Pg.gX 8 Y op=false;simp[Pg.gX,Pg.gI,hep]
   rw[Z,TI _ a rfl]
  right;have w:m=1:=by rw[aa,WV,hep];rfl
  subst w;refine⟨?_,EL s k r b op Z⟩;show Pg.gX 8 Y op=true;simp[Pg.gX,Pg.gI,hep]
 by_cases z:c=40
 .subst z;right;refine⟨rfl,Or.inl (Ue s k 40 r m b op 2 (λ_=>false) ⟨true,0,b,op+1⟩ Z i g d ?_ rfl rfl rfl (f 2 Qd Qd) Qo)⟩;rw[a];rfl
 by_cases A:c=41
 .subst A;by_cases M:0<op
  .right;refine⟨?_,Or.inl (Ue s k 41 r m b op 3 (λ_=>false) ⟨true,1,b,op-1⟩ Z i g d ?_ rfl rfl rfl (f 3 Qd Qd) Qo)⟩
   .show Pg.gX 3 Y op=true;simp[Pg.gX,M]
   rw[a];show Rf.to m b (op-1) (decide (1<=op)) 1=_;have:decide (1<=op)=true:=Qp
   rw[this];rfl
  left;refine⟨?_,?_⟩
  .show Pg.gX 3 Y op=false;simp[Pg.gX];omega
  rw[Z,TI (Rf.to m b (op-1) (decide (1<=op)) 1) (by rw[a];rfl) (by simp[Rf.to];omega)]
 by_cases p:c=124
 .subst p;right;refine⟨rfl,Or.inl (Ue s k 124 r m b op 4 (λ_=>false) ⟨true,0,b,op⟩ Z i g d ?_ rfl rfl rfl (f 4 Qd Qd) Qo)⟩;rw[a];rfl
 by_cases l:c=42\/c=43\/c=63
 .have o:∀kd:Int,Pg.hY c.toNat=kd->Pg.gI kd=true->kd≠0->kd≠3->kd≠1->kd≠8->Pg.iR kd op=op->WV kd=1->Rf.jo m b op c.toNat=⟨m==1,m,b,op⟩ ->
    (Pg.gX (Pg.hY c.toNat) Y op=false/\Rf.jt m b op k (s.data.toList.drop k)=(k:Int))\/(Pg.gX (Pg.hY c.toNat) Y op=true/\(KR s k m b op (Pg.hY c.toNat)\/((Pg.gV (Y7 s) s.size k (Pg.hY c.toNat)).ok=false/\Rf.jt m b op k (s.data.toList.drop k)=(Pg.gV (Y7 s) s.size k (Pg.hY c.toNat)).n))):=by
   intro kd K N n0 U R V D x j;rw[K];have C:Pg.gX kd Y op=Pg.hJ Y:=by simp[Pg.gX,n0,U,N]
   cases hep:Pg.hJ Y
   .left;have v:m=0:=by rw[aa,WV,hep];rfl
    subst v;exact⟨by rw[C,hep],by rw[Z,TI _ (by rw[a,j]) rfl]⟩
   right;have w:m=1:=by rw[aa,WV,hep];rfl
   subst w;exact⟨by rw[C,hep],Or.inl (Ue s k c r 1 b op kd (λ_=>false) ⟨true,1,b,op⟩ Z i g d (by rw[a,j];rfl) rfl x.symm D.symm (f kd R V) (λh=>R h.1))⟩
  rcases l with rfl|rfl|rfl
  .exact o 5 rfl rfl Qd Qd Qd Qd rfl rfl rfl
  .exact o 6 rfl rfl Qd Qd Qd Qd rfl rfl rfl
  exact o 7 rfl rfl Qd Qd Qd Qd rfl rfl rfl
 by_cases u:c=93\/c=125
 .left;rcases u with rfl|rfl
  .exact⟨rfl,by rw[Z,TI _ a rfl]⟩
  exact⟨rfl,by rw[Z,TI _ a rfl]⟩
 have y:(c.toNat:Int)≠91:=Yr g;have G:(c.toNat:Int)≠92:=Yr i;have q:(c.toNat:Int)≠123:=Yr d;have E:(c.toNat:Int)≠40:=Yr z;have F:(c.toNat:Int)≠41:=Yr A;have t:(c.toNat:Int)≠124:=Yr p;have O:(c.toNat:Int)≠42:=Yr (λe=>l (Or.inl e));have P:(c.toNat:Int)≠43:=Yr (λe=>l (Or.inr (Or.inl e)));have Q:(c.toNat:Int)≠63:=Yr (λe=>l (Or.inr (Or.inr e)));have W:(c.toNat:Int)≠93:=Yr (λe=>u (Or.inl e));have S:(c.toNat:Int)≠125:=Yr (λe=>u (Or.inr e));have J:Pg.hY c.toNat=1:=by
  unfold Pg.hY;rw[g_,dG E,dG F,dG t,dG O,dG P,dG Q,dG q]
 have j:Rf.jo m b op c.toNat=⟨true,1,b,op⟩:=by
  unfold Rf.jo;rw[dG G,dG y,dG E,dG F,dG t,g_,dG q,g_]
 right;rw[J];refine⟨rfl,Or.inl ?_⟩;by_cases B:(c.toNat:Int)=46
 .refine Ue s k c r m b op 1 (λk=>!(Pg.gY (λ_=>false) 10 10 k)) ⟨true,1,b,op⟩ Z i g d (by rw[a,j]) rfl rfl rfl ?_ (λh=>zK h.2);rw[Pg.gV,dF rfl,Pg.iC,H,dG y,dF B]
 have I:=Qe c;refine Ue s k c r m b op 1 (Pg.gY (λ_=>false) c.toNat c.toNat) ⟨true,1,b,op⟩ Z i g d (by rw[a,j]) rfl rfl rfl ?_ (λh=>Ig c.toNat Qo I h.2);rw[Pg.gV,dF rfl,Pg.iC,H,dG y,dG B,dG G]
def NB(g:Int->Int)(len first:Int)(z:∀j,-1<=g j/\g j<256)(H:0<=len):∀(u:Nat) (e fa:Int) (f:N_),0<=e->0<=(Pg.gK g len first u e fa f).n:=by
 intro u
 induction u with
 |zero=>intro e fa f h;exact h
 |succ u ih=>
  intro e fa f h;have a:=Pg.iP g e z;unfold Pg.gK;split
  .split
   .simp;omega
   split
   .exact ih _ _ _ Qo
   simp;omega
  exact H
def Ja(g:Int->Int)(len i kd:Int)(z:∀j,-1<=g j/\g j<256)(H:0<=len)(h:0<=i):0<=(Pg.gV g len i kd).n:=by
 have a:=Pg.iu g i z;unfold Pg.gV;split
 .simp only;unfold Pg.iC;split
  .unfold Pg.gM;split
   .exact NB g len _ z H _ _ _ _ Qo
   exact NB g len _ z H _ _ _ _ Qo
  split
  .simp;omega
  split
  .simp;omega
  simp;omega
 split
 .simp only;unfold Pg.iB Pg.gR
  repeat' split
  all_goals (simp;omega)
 simp;omega
def O0(s:ByteArray):∀(u k:Nat) (Z op b:Int) (Y:List Pg.Pt),s.size<u+k->k<=s.size->0<=op ->
  ((Pg.ij (Y7 s) s.size u Z op k Y).ok=false/\Rf.jt (WV Z) b op k (s.data.toList.drop k)=(Pg.ij (Y7 s) s.size u Z op k Y).n/\0<=(Pg.ij (Y7 s) s.size u Z op k Y).n) \/
  (∃ps,(Pg.ij (Y7 s) s.size u Z op k Y).ok=true/\(Pg.ij (Y7 s) s.size u Z op k Y).ps=Y++ps/\Rf.jt (WV Z) b op k (s.data.toList.drop k)=-1 /\
   (op<=6->Rf.i6 (WV Z) b op k (s.data.toList.drop k)=Pg.tooDeep ps op) /\
   (∃c,∀v,Rf.je s.data.toList (v+c) k=some (Pg.falling ps))/\(∃c,∀v,Rf.js s.data.toList (v+c) k=some (Pg.matchless ps))/\(∀p∈ps,0<=p.pl/\-1<=p.fa)):=by
 intro u
 induction u with
 |zero=>intro k Z op b Y h1 h2;omega
 |succ u ih=>
  intro k Z op b Y P O B;rcases hd:s.data.toList.drop k with _|⟨c,r⟩
  .have J:k=s.size:=by
    have:s.size<=k:=by simpa using hd
    omega
   have y:¬(k:Int)<(s.size:Int):=Qo
   rw[Pg.ij,dG y];have z:WV Z=0\/WV Z=1:=by unfold WV;split<;>simp
   by_cases h0:op=0
   .right;subst h0;refine⟨[],rfl,Qs,?_,λ_=>rfl,⟨1,λv=>?_⟩,⟨1,λv=>?_⟩,Qs⟩
    .rw[Rf.jt,g_]
    .rw[Rf.je,hd];rfl
    rw[Rf.js,hd];rfl
   left;refine⟨by simpa using h0,?_,Qs⟩;rw[Rf.jt,p_]
  have K:=Xu hd;have j:(k:Int)<(s.size:Int):=Qo
  have D:=yn s k c r (WV Z) b op Z hd rfl;rw[Pg.ij,dF j];unfold xD at D;rw[hd]at D;rcases D with ⟨h1,h2⟩|⟨h1,h2|⟨h2,h3⟩⟩
  .left;rw[h1];exact⟨rfl,h2,Qs⟩
  .let⟨n,F,mo,fa,b',L,A,N,a,d,x,⟨t,m⟩,⟨q,i⟩⟩:=h2;rw[h1,N];simp only[dB];rw[hd]at a d;have l:0<=Pg.iR (Pg.hY (Y7 s k)) op:=by
    unfold Pg.iR;split
    .omega
    split
    .rename_i h3;rw[h3]at h1;simp[Pg.gX]at h1;omega
    exact B
   generalize Pg.hY (Y7 s k)=kd at *;rcases ih (k+n) kd (Pg.iR kd op) b' (Y++[⟨kd,k,F,0,mo,fa⟩]) Qo A l with ⟨g1,g2,w⟩|⟨ps,g1,g2,w,E,⟨g,G⟩,⟨f,H⟩,I⟩
   .left;exact⟨g1,by rw[a];exact g2,w⟩
   right;refine⟨⟨kd,k,F,0,mo,fa⟩::ps,g1,by rw[g2];simp,by rw[a];exact w,λM=>?_,?_,?_,?_⟩
   .rw[d M,Pg.tooDeep];by_cases o:6<Pg.iR kd op
    .rw[dF o,dF o]
    rw[dG o,dG o];exact E Qo
   .refine⟨g+t,λv=>?_⟩;rw[show v+(g+t)=(v+g)+t by omega,m,Pg.falling];by_cases e:fa=-1
    .rw[dF e,dF e];exact G v
    rw[dG e,dG e]
   .refine⟨f+q,λv=>?_⟩;rw[show v+(f+q)=(v+f)+q by omega,i,Pg.matchless];by_cases e:kd=1/\Rf.i4 F 256=0
    .rw[dF e,dF e]
    rw[dG e,dG e];exact H v
   intro p C;rcases ZR.1 C with h|h
   .subst h;exact⟨Qs,x⟩
   exact I p h
  left;rw[h1];simp only[dB];rw[h2];refine⟨rfl,h3,?_⟩;exact Ja _ _ _ _ (Mw s) Qo Qo
def TV{l:List UInt8}{v:Int}(h:Rf.one l=some (v,n))(r:List UInt8):Rf.one (l.take n++r)=some (v,n):=by
 unfold Rf.one at h;rcases l with _|⟨c,t⟩
 .cases h
 simp only at h;by_cases a:c=92
 .rw[dF a]at h;rcases t with _|⟨d,t⟩
  .cases h
  simp only at h;by_cases b:d=110
  .rw[dF b]at h;simp only[Zp,dW]at h;obtain⟨rfl,rfl⟩:=h;simp[Rf.one,a,b]
  rw[dG b]at h;by_cases e:d=116
  .rw[dF e]at h;simp only[Zp,dW]at h;obtain⟨rfl,rfl⟩:=h;simp[Rf.one,a,e]
  rw[dG e]at h;by_cases f:d=120
  .rw[dF f]at h;rcases t with _|⟨x,_|⟨y,t⟩⟩
   .cases h
   .cases h
   simp only at h;split at h
   .rename_i g;simp only[Zp,dW]at h;obtain⟨rfl,rfl⟩:=h;rw[ZS]at g;simp[Rf.one,a,f,g.1,g.2]
   cases h
  rw[dG f]at h;simp only[Zp,dW]at h;obtain⟨rfl,rfl⟩:=h;simp[Rf.one,a,b,e,f]
 rw[dG a]at h;simp only[Zp,dW]at h;obtain⟨rfl,rfl⟩:=h;simp[Rf.one,a]
def OW:∀(f:Nat) (l:List UInt8) (i:Nat) (fa:Int) (inn:N_) (j:Nat) (Y:Int) (F:N_),Rf.items f l i fa inn=some (j,Y,F) ->
  ∀(r:List UInt8) (f' J:Nat) (H:Int),j-i+1<=f'->∃FA',Rf.items f' (l.take (j-i+1)++r) J H inn=some (J+(j-i),FA',F):=by
 intro f
 induction f with
 |zero=>intro l i fa inn j Y F h;simp[Rf.items]at h
 |succ f ih=>
  intro l i fa inn j Y F h r f' J H C;obtain⟨f',rfl⟩:∃q,f'=q+1:=⟨f'-1,Qo⟩;have z:=Rf.jm h;unfold Rf.items at h;rcases l with _|⟨c,t⟩
  .cases h
  simp only at h;by_cases k:c=93
  .rw[dF k]at h;simp only[Zp,dW]at h;obtain⟨rfl,_,rfl⟩:=h;refine⟨H,?_⟩;simp[Rf.items,k]
  rw[dG k]at h;rcases ho:Rf.one (c::t)with _|⟨a,n⟩
  .rw[ho]at h;cases h
  rw[ho]at h;simp only at h;have D:=Rf.i9 ho;have B:=Rf.jr ho;rcases hd:(c::t).drop n with _|⟨d,e⟩
  .rw[hd]at h;cases h
  rw[hd]at h;simp only at h;by_cases p:d=45
  .rw[dF p]at h;rcases ho2:Rf.one e with _|⟨b,n'⟩
   .rw[ho2]at h;cases h
   rw[ho2]at h;simp only at h;have s:=Rf.jm h;have y:=Rf.jr ho2;let⟨FA',v⟩:=ih _ _ _ _ _ _ _ h r f' (J+n+1+n') (if b<a/\H<0 then (J:Int) else H) Qo;refine⟨FA',?_⟩;have w:(c::t).take (j-i+1)++r=(c::t).take n++(d::(e.take n'++((e.drop n').take (j-(i+n+1+n')+1)++r))):=by
    rw[show j-i+1=n+(1+(n'+(j-(i+n+1+n')+1))) by omega,eF,hd,show 1+(n'+(j-(i+n+1+n')+1))=(n'+(j-(i+n+1+n')+1))+1 by omega,ZK,eF];simp[Zs]
   have x:((c::t).take n).length=n:=by rw[eE];omega
   have g:∃u,(c::t).take n++(d::(e.take n'++((e.drop n').take (j-(i+n+1+n')+1)++r)))=c::u:=by
    obtain⟨n0,rfl⟩:∃q,n=q+1:=⟨n-1,Qo⟩;exact⟨_,by rw[ZK,Zt]⟩
   let⟨u,o⟩:=g;have m:=TV ho (d::(e.take n'++((e.drop n').take (j-(i+n+1+n')+1)++r)));rw[w,o,Rf.items];simp only[dG k];rw[<-o,m];simp only;rw[show((c::t).take n++(d::(e.take n'++((e.drop n').take (j-(i+n+1+n')+1)++r)))).drop n=d::(e.take n'++((e.drop n').take (j-(i+n+1+n')+1)++r)) by
    rw[eH Qo,eI Qo];rfl]
   simp only[dF p];rw[TV ho2];simp only;have A:=Rf.i9 ho2;rw[show(e.take n'++((e.drop n').take (j-(i+n+1+n')+1)++r)).drop n'=(e.drop n').take (j-(i+n+1+n')+1)++r by
    rw[eH (by rw[eE];omega),eI (by rw[eE];omega)];rfl]
   rw[v];congr 2;omega
  rw[dG p]at h;have s:=Rf.jm h;let⟨FA',v⟩:=ih _ _ _ _ _ _ _ h r f' (J+n) H Qo;refine⟨FA',?_⟩;have w:(c::t).take (j-i+1)++r=(c::t).take n++((d::e).take (j-(i+n)+1)++r):=by
   rw[show j-i+1=n+(j-(i+n)+1) by omega,eF,hd,Zs]
  have x:((c::t).take n).length=n:=by rw[eE];omega
  have g:∃u,(c::t).take n++((d::e).take (j-(i+n)+1)++r)=c::u:=by
   obtain⟨n0,rfl⟩:∃q,n=q+1:=⟨n-1,Qo⟩;exact⟨_,by rw[ZK,Zt]⟩
  let⟨u,o⟩:=g;have m:=TV ho ((d::e).take (j-(i+n)+1)++r);rw[w,o,Rf.items];simp only[dG k];rw[<-o,m];simp only;rw[show((c::t).take n++((d::e).take (j-(i+n)+1)++r)).drop n=(d::e).take (j-(i+n)+1)++r by
   rw[eH Qo,eI Qo];rfl]
  rw[ZK,Zt]at v ⊢;simp only[dG p];rw[v];congr 2;omega
def Lv{l:List UInt8}{H:Int}(h:Rf.set l i=some (n,H,F))(r:List UInt8)(z:Nat):∃FA',Rf.set (l.take (n-i-1)++r) z=some (z+(n-i),FA',F):=by
 have o:=Rf.i7 h;unfold Rf.set at h;rcases l with _|⟨c,t⟩
 .cases h
 simp only at h;by_cases e:c=94
 .rw[dF e]at h;rcases hx:Rf.items (t.length+1) t (i+2) (-1) (λ_=>false)with _|⟨a,b,d⟩
  .rw[hx]at h;cases h
  rw[hx]at h;have m:=Rf.jm hx;simp only[dX,Zp,dW]at h;obtain⟨rfl,_,rfl⟩:=h;have f:=Rf.jp hx;have j:(c::t).take (a+1-i-1)++r=c::(t.take (a-(i+2)+1)++r):=by
   rw[show a+1-i-1=(a-(i+2)+1)+1 by omega,ZK,Zt]
  have k:a-(i+2)+1<=(t.take (a-(i+2)+1)++r).length+1:=by
   rw[Zl,eE];omega
  let⟨FA',g⟩:=OW _ _ _ _ _ _ _ _ hx r ((t.take (a-(i+2)+1)++r).length+1) (z+2) (-1) k;rw[j,Rf.set];simp only[dF e,g,dX];exact⟨FA',by rw[show z+2+(a-(i+2))+1=z+(a+1-i) by omega]⟩
 rw[dG e]at h;rcases hx:Rf.items (t.length+2) (c::t) (i+1) (-1) (λ_=>false)with _|⟨a,b,d⟩
 .rw[hx]at h;cases h
 rw[hx]at h;have m:=Rf.jm hx;simp only[dX,Zp,dW]at h;obtain⟨rfl,_,rfl⟩:=h;have f:=Rf.jp hx;have j:(c::t).take (a+1-i-1)++r=c::(t.take (a-(i+1))++r):=by
  rw[show a+1-i-1=(a-(i+1))+1 by omega,ZK,Zt]
 have e2:(c::t).take (a-(i+1)+1)++r=c::(t.take (a-(i+1))++r):=by
  rw[ZK,Zt]
 have k:a-(i+1)+1<=(t.take (a-(i+1))++r).length+2:=by
  simp only[dZ]at f;rw[Zl,eE];omega
 let⟨FA',g⟩:=OW _ _ _ _ _ _ _ _ hx r ((t.take (a-(i+1))++r).length+2) (z+1) (-1) k;rw[e2]at g;rw[j,Rf.set];simp only[dG e,g,dX];exact⟨FA',by rw[show z+1+(a-(i+1))+1=z+(a+1-i) by omega]⟩
structure Tk where
 w:List UInt8
 kd:Int
 mo:Int
def XW(ts:List Tk):List UInt8:=ts.flatMap (·.w)
def XT(a b:List Tk):XW (a++b)=XW a++XW b:=by simp[XW]
def XN(t:Tk)(b:List Tk):XW (t::b)=t.w++XW b:=by simp[XW]
def SW(c:UInt8):Prop:=c=92\/c=91\/c=123\/c=40\/c=41\/c=124\/c=42\/c=43\/c=63\/c=93\/c=125
def PZ(w:List UInt8):Prop:=
 (∃c,w=[c]/\¬SW c)\/(∃e v,w=92::e/\∀r,Rf.one (92::(e++r))=some (v,e.length+1)) \/
 (∃e,w=91::e/\∀r i,∃fa inn,Rf.set (e++r) i=some (i+(e.length+1),fa,inn))
def Ty(w:List UInt8)(mo:Int):Prop:=
 (∃x:UInt8,w=[123,x,125]/\48<=(x.toNat:Int)/\(x.toNat:Int)<=57/\mo=(x.toNat:Int)-48) \/
 (∃x z:UInt8,w=[123,x,44,z,125]/\48<=(x.toNat:Int)/\(x.toNat:Int)<=57/\48<=(z.toNat:Int)/\(z.toNat:Int)<=57/\mo=(z.toNat:Int)-48)
def UG(t:Tk):Prop:=
 (t.kd=1/\PZ t.w)\/(t.kd=2/\t.w=[40])\/(t.kd=3/\t.w=[41])\/(t.kd=4/\t.w=[124])\/(t.kd=5/\t.w=[42])\/(t.kd=6/\t.w=[43])\/(t.kd=7/\t.w=[63])\/(t.kd=8/\Ty t.w t.mo)
def X3(t:Tk):Prop:=t.kd=5\/t.kd=6\/t.kd=7\/t.kd=8
def Is:Nat->Bool->List Tk->Int->Prop
 |0,_,_,_=>False
 |f+1,true,ts,V=>(ts=[]/\V=0)\/(∃t r,ts=t::r/\UG t/\t.kd=4/\Is f true r V) \/
   (∃p r A B,ts=p++r/\Is f false p A/\Is f true r B/\V=A+B/\∀t r',r=t::r'->¬X3 t)
 |f+1,false,ts,V=>(∃t,ts=[t]/\UG t/\t.kd=1/\V=1)\/(∃a inn b,ts=a::(inn++[b])/\UG a/\a.kd=2/\UG b/\b.kd=3/\Is f true inn V) \/
   (∃q t A,ts=q++[t]/\Is f false q A/\UG t/\X3 t/\V=if t.kd=8 then A*t.mo else A)
def zA:∀(f:Nat) (g:Bool) (ts:List Tk) (V:Int),Is f g ts V->Is (f+1) g ts V:=by
 intro f
 induction f with
 |zero=>intro g ts V h;exact absurd h (by simp[Is])
 |succ f ih=>
  intro g ts V h;cases g
  .unfold Is at h ⊢;rcases h with h|⟨a,inn,b,h1,h2,h3,c,d,e⟩|⟨q,t,A,h1,h2,h3,c,d⟩
   .exact Or.inl h
   .exact Or.inr (Or.inl ⟨a,inn,b,h1,h2,h3,c,d,ih _ _ _ e⟩)
   exact Or.inr (Or.inr ⟨q,t,A,h1,ih _ _ _ h2,h3,c,d⟩)
  unfold Is at h ⊢;rcases h with h|⟨t,r,h1,h2,h3,c⟩|⟨p,r,A,B,h1,h2,h3,c,d⟩
  .exact Or.inl h
  .exact Or.inr (Or.inl ⟨t,r,h1,h2,h3,ih _ _ _ c⟩)
  exact Or.inr (Or.inr ⟨p,r,A,B,h1,ih _ _ _ h2,ih _ _ _ h3,c,d⟩)
def NW{f:Nat}{b:Bool}{ts:List Tk}{V:Int}(h:Is f b ts V)(z:f<=g):Is g b ts V:=by
 induction g with
 |zero=>
   have:f=0:=Qo
   subst this;exact h
 |succ g ih=>
  by_cases e:f=g+1
  .subst e;exact h
  exact zA _ _ _ _ (ih Qo)
def AX:List Tk->Int->Int->Prop
 |[],_,op=>op=0
 |t::r,bf,op=>UG t/\Pg.gX t.kd bf op=true/\AX r t.kd (Pg.iR t.kd op)
def BT{t:Tk}(h:UG t):t.kd=1\/t.kd=2\/t.kd=3\/t.kd=4\/X3 t:=by
 unfold X3;rcases h with h|h|h|h|h|h|h|h<;>omega
def Lo{t:Tk}(h:X3 t)(op:Int):Pg.iR t.kd op=op:=by
 unfold Pg.iR X3 at *;rw[g_,g_]
def xI:∀(r:List Tk) (f:Nat) (q:List Tk) (A z op:Int),Is f false q A->AX r z op ->
  ∃f' q' A' r' bf',q++r=q'++r'/\Is f' false q' A'/\AX r' bf' op/\r'.length<=r.length/\∀t r'',r'=t::r''->¬X3 t:=by
 intro r
 induction r with
 |nil=>intro f q A z op h a;exact⟨f,q,A,[],z,rfl,h,a,Zg _,Qs⟩
 |cons t r ih=>
  intro f q A z op h a;by_cases hs:X3 t
  .let⟨h1,h2,h3⟩:=a;rw[Lo hs]at h3;have g:Is (f+1) false (q++[t]) (if t.kd=8 then A*t.mo else A):=Or.inr (Or.inr ⟨q,t,A,rfl,h,h1,hs,rfl⟩);let⟨f',q',A',r',bf',b,e2,c,i,d⟩:=ih (f+1) (q++[t]) _ _ op g h3;exact⟨f',q',A',r',bf',by rw[<-b];simp,e2,c,Qp,d⟩
  exact⟨f,q,A,t::r,z,rfl,h,a,Zg _,λj r'' e=>by cases e;exact hs⟩
def zn:∀(n:Nat) (ts:List Tk) (Y op:Int),ts.length<=n->0<=op->AX ts Y op->(∀t r,ts=t::r->¬X3 t) ->
  ∃f inn rest V,ts=inn++rest/\Is f true inn V/\((rest=[]/\op=0)\/(∃b r,rest=b::r/\UG b/\b.kd=3/\0<op/\AX r 3 (op-1))):=by
 intro n
 induction n with
 |zero=>
  intro ts Y op l h0 m _;have:ts=[]:=dA Qo;subst this;exact⟨1,[],[],0,rfl,Or.inl ⟨rfl,rfl⟩,Or.inl ⟨rfl,m⟩⟩
 |succ n ih=>
  intro ts Y op l h0 m p;rcases ts with _|⟨t,r⟩
  .exact⟨1,[],[],0,rfl,Or.inl ⟨rfl,rfl⟩,Or.inl ⟨rfl,m⟩⟩
  let⟨h1,h2,h3⟩:=m;simp only[dZ]at l;have go:∀(f:Nat) (q k:List Tk) (A d:Int),Is f false q A->AX k d op->k.length<=n->t::r=q++k ->
    ∃f inn rest V,t::r=inn++rest/\Is f true inn V/\((rest=[]/\op=0)\/(∃b r,rest=b::r/\UG b/\b.kd=3/\0<op/\AX r 3 (op-1))):=by
   intro f q k A d G s F E;let⟨f',B,x,u,o,C,e2,D,J,y⟩:=xI k f q A d op G s;let⟨i,inn,rest,V,g1,g2,j⟩:=ih u o op Qo h0 D y;refine⟨max f' i+1,B++inn,rest,x+V,by rw[E,C,g1,Zs],Or.inr (Or.inr ⟨B,inn,x,V,rfl,NW e2 (Nat.le_max_left _ _),NW g2 (Nat.le_max_right _ _),rfl,?_⟩),j⟩;intro w v e;exact y w (v++rest) (by rw[g1,e];rfl)
  rcases BT h1 with c|c|c|c|c
  .rw[c]at h3;exact go 1 [t] r 1 1 (Or.inl ⟨t,rfl,h1,c,rfl⟩) h3 Qo rfl
  .rw[c]at h3;have a:=h3;let⟨i,inn,rest,V,g1,g2,j⟩:=ih r 2 (op+1) Qo Qo a (by
    intro w u e hs;rw[e]at a;have:=a.2.1;unfold X3 at hs;simp[Pg.gX,Pg.hJ,Pg.gI]at this;rcases hs with h|h|h|h<;>simp[h]at this)
   rcases j with ⟨_,g⟩|⟨b,I,rfl,k1,H,K,z⟩
   .omega
   rw[show op+1-1=op by omega]at z;refine go (i+1) (t::(inn++[b])) I V 3 (Or.inr (Or.inl ⟨t,inn,b,rfl,h1,c,k1,H,g2⟩)) z ?_ (by rw[g1];simp);rw[g1]at l;simp at l;omega
  .refine⟨1,[],t::r,0,rfl,Or.inl ⟨rfl,rfl⟩,Or.inr ⟨t,r,rfl,h1,c,?_,?_⟩⟩
   .rw[c]at h2;simpa[Pg.gX]using h2
   rw[c]at h3;exact h3
  .rw[c]at h3;have a:=h3;let⟨i,inn,rest,V,g1,g2,j⟩:=ih r 4 op Qo h0 a (by
    intro w u e hs;rw[e]at a;have:=a.2.1;unfold X3 at hs;simp[Pg.gX,Pg.hJ,Pg.gI]at this;rcases hs with h|h|h|h<;>simp[h]at this)
   exact⟨i+1,t::inn,rest,V,by rw[g1];rfl,Or.inr (Or.inl ⟨t,inn,rfl,h1,c,g2⟩),j⟩
  exact absurd c (p t r rfl)
def U5(t:Tk):Pg.Pt:=⟨t.kd,0,λ_=>false,0,t.mo,0⟩
def VJ(n:Int):Pg.gW n=if 96<n then 97 else n:=rfl
def SY{a b:Int}(_ha:0<=a)(z:0<=b):Pg.gW (Pg.gW a+b)=Pg.gW (a+b):=by
 simp only[VJ];repeat' split
 all_goals omega
def FF{a m:Int}(_ha:0<=a)(z:0<=m):Pg.gW (Pg.gW a*m)=Pg.gW (a*m):=by
 by_cases h:96<a
 .rw[VJ a,dF h];by_cases h0:m=0
  .subst h0;simp
  have h1:97*1<=97*m:=Int.mul_le_mul_of_nonneg_left Qo Qo;have h2:97*m<=a*m:=Int.mul_le_mul_of_nonneg_right Qo z;rw[VJ,VJ,p_,p_]
 rw[VJ a,dG h]
def US{a:Int}(ha:0<=a):0<=Pg.gW a:=(Pg.gO a ha).1
def M3{t:Tk}(h:UG t)(H:t.kd=8):0<=t.mo/\Ty t.w t.mo:=by
 have a:Ty t.w t.mo:=by
  rcases h with h|h|h|h|h|h|h|h
  all_goals first|(exact absurd h.1 Qo)|exact h.2
 refine⟨?_,a⟩;rcases a with ⟨x,_,h1,h2,h3⟩|⟨x,z,_,_,_,h1,h2,h3⟩<;>omega
def Sw(a b:List Pg.Pt):∀c,Pg.cRun (a++b) c=Pg.cRun b (Pg.cRun a c):=by
 induction a with
 |nil=>intro c;rfl
 |cons p r ih=>intro c;simp only[Zt,Pg.cRun];exact ih _
def machine:∀(f:Nat) (g:Bool) (ts:List Tk) (V:Int),Is f g ts V->0<=V /\
  (g=false->∀c:Pg.C,0<=c.ah->0<=c.la->Pg.cRun (ts.map U5) c=⟨Pg.gW (c.ah+c.la),Pg.gW V,c.st⟩) /\
  (g=true->∀c:Pg.C,0<=c.ah->0<=c.la->∃ah la,Pg.cRun (ts.map U5) c=⟨ah,la,c.st⟩/\0<=ah/\0<=la/\Pg.gW (ah+la)=Pg.gW (c.ah+c.la+V)):=by
 intro f
 induction f with
 |zero=>intro g ts V h;exact absurd h (by simp[Is])
 |succ f ih=>
  intro g ts V h;cases g
  .unfold Is at h;rcases h with ⟨t,rfl,h2,h3,rfl⟩|⟨a,inn,b,rfl,h2,h3,n,u,v⟩|⟨q,t,A,rfl,h2,h3,n,rfl⟩
   .refine⟨Qo,λ_ c h1 h2=>?_,λh=>by cases h⟩;simp only[dt,eJ,Pg.cRun,Pg.iE,U5,h3,dB];rfl
   .let⟨i,_,l⟩:=ih true inn V v;refine⟨i,λ_ c c1 c2=>?_,λh=>by cases h⟩;let⟨ah,la,j,e2,m,k⟩:=l rfl ⟨0,0,Pg.gW (c.ah+c.la)::c.st⟩ Qs Qs;simp only[dt,eK,eJ,Pg.cRun];have s:Pg.iE c (U5 a)=⟨0,0,Pg.gW (c.ah+c.la)::c.st⟩:=by simp[Pg.iE,U5,h3]
    rw[s,Sw,j];simp only[Pg.cRun];have x:Pg.iE ⟨ah,la,Pg.gW (c.ah+c.la)::c.st⟩ (U5 b)=⟨Pg.gW (c.ah+c.la),Pg.gW (ah+la),c.st⟩:=by simp[Pg.iE,U5,u]
    rw[x,k];simp
   let⟨e,o,_⟩:=ih false q A h2;have i:0<=(if t.kd=8 then A*t.mo else A):=by
    split
    .rename_i d;exact ep e (M3 h3 d).1
    exact e
   refine⟨i,λ_ c c1 c2=>?_,λh=>by cases h⟩;rw[eK,Sw,o rfl c c1 c2];simp only[dt,eJ,Pg.cRun];by_cases d:t.kd=8
   .rw[dF d];simp only[Pg.iE,U5,d];rw[dG Qd,dG Qd,dG Qd,dG Qd,dF trivial,FF e (M3 h3 d).1]
   rw[dG d];unfold X3 at n;unfold Pg.iE;rw[dG (show ¬(U5 t).kd=1 by simp only[U5];omega),dG (show ¬(U5 t).kd=2 by simp only[U5];omega),dG (show ¬(U5 t).kd=3 by simp only[U5];omega),dG (show ¬(U5 t).kd=4 by simp only[U5];omega),dG (show ¬(U5 t).kd=8 from d)]
  unfold Is at h;rcases h with ⟨rfl,rfl⟩|⟨t,r,rfl,h2,h3,n⟩|⟨p,r,A,B,rfl,h2,h3,rfl,u⟩
  .refine⟨Qo,(λh=>by cases h),λ_ c c1 c2=>⟨c.ah,c.la,rfl,c1,c2,Qs⟩⟩
  .let⟨i,_,l⟩:=ih true r V n;refine⟨i,(λh=>by cases h),λ_ c c1 c2=>?_⟩;let⟨ah,la,j,e2,m,k⟩:=l rfl ⟨Pg.gW (c.ah+c.la),0,c.st⟩ (US Qo) Qs;refine⟨ah,la,?_,e2,m,?_⟩
   .simp only[dt,Pg.cRun];have s:Pg.iE c (U5 t)=⟨Pg.gW (c.ah+c.la),0,c.st⟩:=by simp[Pg.iE,U5,h3]
    rw[s,j]
   rw[k];simp only[Int.add_zero];exact SY Qo i
  let⟨e,o,_⟩:=ih false p A h2;let⟨y,_,l⟩:=ih true r B h3;refine⟨Qo,(λh=>by cases h),λ_ c c1 c2=>?_⟩;let⟨ah,la,j,e2,m,k⟩:=l rfl ⟨Pg.gW (c.ah+c.la),Pg.gW A,c.st⟩ (US Qo) (US e);refine⟨ah,la,by rw[eK,Sw,o rfl c c1 c2,j],e2,m,?_⟩;rw[k];simp only;have k1:=SY (a:=c.ah+c.la) (b:=Pg.gW A+B) Qo (by have:=US e;omega);have w:=SY (a:=A) (b:=c.ah+c.la+B) e Qo;rw[show Pg.gW (c.ah+c.la)+Pg.gW A+B=Pg.gW (c.ah+c.la)+(Pg.gW A+B) by omega,k1,show c.ah+c.la+(Pg.gW A+B)=Pg.gW A+(c.ah+c.la+B) by omega,w];congr 1;omega
def Oc{t:Tk}(h:UG t)(h3:t.kd≠3):∃C,C<=t.w.length/\1<=t.w.length/\∀(p:List UInt8) (i v:Nat) (o:Int) (r:List UInt8),p.drop i=t.w++r->Rf.jg p (v+C) i o=Rf.jg p v (i+t.w.length) (Pg.iR t.kd o):=by
 have one:∀(c:UInt8) (p:List UInt8) (i v:Nat) (o:Int) (r:List UInt8),c≠92->c≠91->c≠40->c≠41->p.drop i=c::r->Rf.jg p (v+1) i o=Rf.jg p v (i+1) o:=by
  intro c p i v o r B D E F b;rw[Rf.jg,b];simp only[dG B,dG D,dG E,dG F]
 rcases h with ⟨d,h⟩|⟨d,a⟩|⟨d,a⟩|⟨d,a⟩|⟨d,a⟩|⟨d,a⟩|⟨d,a⟩|⟨d,h⟩
 .have g:∀o,Pg.iR t.kd o=o:=λo=>by simp[Pg.iR,d]
  rcases h with ⟨c,a,hs⟩|⟨e,v0,a,j⟩|⟨e,a,k⟩
  .refine⟨1,by simp[a],by simp[a],λp i v o r b=>?_⟩;rw[g,a];rw[a]at b;unfold SW at hs;exact one c p i v o r (λe=>hs (by simp[e])) (λe=>hs (by simp[e])) (λe=>hs (by simp[e])) (λe=>hs (by simp[e])) b
  .refine⟨1,by simp[a],by simp[a],λp i v o r b=>?_⟩;rw[g,a];rw[a]at b;rw[Rf.jg,b];simp only[Zt];rw[dF trivial,j r];rfl
  refine⟨1,by simp[a],by simp[a],λp i v o r b=>?_⟩;rw[g,a];rw[a]at b;let⟨fa,inn,hs⟩:=k r i;rw[Rf.jg,b];simp only[Zt];rw[dG Qd,dF trivial,hs];rfl
 .refine⟨1,by simp[a],by simp[a],λp i v o r b=>?_⟩;rw[a]at b;rw[Rf.jg,b,a];simp[Pg.iR,d]
 .exact absurd d h3
 .refine⟨1,by simp[a],by simp[a],λp i v o r b=>?_⟩;rw[a]at b;rw[show Pg.iR t.kd o=o by simp[Pg.iR,d],a];exact one 124 p i v o r Qd Qd Qd Qd b
 .refine⟨1,by simp[a],by simp[a],λp i v o r b=>?_⟩;rw[a]at b;rw[show Pg.iR t.kd o=o by simp[Pg.iR,d],a];exact one 42 p i v o r Qd Qd Qd Qd b
 .refine⟨1,by simp[a],by simp[a],λp i v o r b=>?_⟩;rw[a]at b;rw[show Pg.iR t.kd o=o by simp[Pg.iR,d],a];exact one 43 p i v o r Qd Qd Qd Qd b
 .refine⟨1,by simp[a],by simp[a],λp i v o r b=>?_⟩;rw[a]at b;rw[show Pg.iR t.kd o=o by simp[Pg.iR,d],a];exact one 63 p i v o r Qd Qd Qd Qd b
 have g:∀o,Pg.iR t.kd o=o:=λo=>by simp[Pg.iR,d]
 have f:∀x:UInt8,48<=(x.toNat:Int)->(x.toNat:Int)<=57->x≠92/\x≠91/\x≠40/\x≠41:=by
  intro x h1 h2;refine⟨?_,?_,?_,?_⟩<;>(intro e;subst e;revert h1 h2;decide)
 rcases h with ⟨x,a,x1,x2,_⟩|⟨x,z,a,x1,x2,K,L,_⟩
 .refine⟨3,by simp[a],by simp[a],λp i v o r b=>?_⟩;rw[a]at b;let⟨n,q,s,u⟩:=f x x1 x2;have l:p.drop (i+1)=x::125::r:=by rw[<-YU,b];rfl
  have m:p.drop (i+2)=125::r:=by rw[<-YU,b];rfl
  rw[g,a,show v+3=v+2+1 by omega,one 123 p i _ o _ Qd Qd Qd Qd b,show v+2=v+1+1 by omega,one x p _ _ o _ n q s u l,one 125 p _ _ o _ Qd Qd Qd Qd m];rfl
 refine⟨5,by simp[a],by simp[a],λp i v o r b=>?_⟩;rw[a]at b;let⟨n,q,s,u⟩:=f x x1 x2;let⟨G,H,I,J⟩:=f z K L;have l:p.drop (i+1)=x::44::z::125::r:=by rw[<-YU,b];rfl
 have m:p.drop (i+2)=44::z::125::r:=by rw[<-YU,b];rfl
 have y:p.drop (i+3)=z::125::r:=by rw[<-YU,b];rfl
 have A:p.drop (i+4)=125::r:=by rw[<-YU,b];rfl
 rw[g,a,show v+5=v+4+1 by omega,one 123 p i _ o _ Qd Qd Qd Qd b,show v+4=v+3+1 by omega,one x p _ _ o _ n q s u l,show v+3=v+2+1 by omega,one 44 p _ _ o _ Qd Qd Qd Qd m,show v+2=v+1+1 by omega,one z p _ _ o _ G H I J y,one 125 p _ _ o _ Qd Qd Qd Qd A];rfl
def xF:∀(f:Nat) (g:Bool) (ts:List Tk) (V:Int),Is f g ts V->∃C,C<=(XW ts).length/\∀(p:List UInt8) (i v:Nat) (o:Int) (r:List UInt8),1<=o->p.drop i=XW ts++r->Rf.jg p (v+C) i o=Rf.jg p v (i+(XW ts).length) o:=by
 intro f
 induction f with
 |zero=>intro g ts V h;exact absurd h (by simp[Is])
 |succ f ih=>
  have d:∀(a b:List UInt8) (j l:Nat),(∀(p:List UInt8) (i v:Nat) (o:Int) (r:List UInt8),1<=o->p.drop i=a++r->Rf.jg p (v+j) i o=Rf.jg p v (i+a.length) o) ->
    (∀(p:List UInt8) (i v:Nat) (o:Int) (r:List UInt8),1<=o->p.drop i=b++r->Rf.jg p (v+l) i o=Rf.jg p v (i+b.length) o) ->
    ∀(p:List UInt8) (i v:Nat) (o:Int) (r:List UInt8),1<=o->p.drop i=(a++b)++r->Rf.jg p (v+(j+l)) i o=Rf.jg p v (i+(a++b).length) o:=by
   intro a b j l ha J p i v o r e c;rw[show v+(j+l)=(v+l)+j by omega,ha p i (v+l) o (b++r) e (by rw[c,Zs]),J p (i+a.length) v o r e (by rw[<-YU,c,Zs,eL])];rw[Zl,ZN]
  intro g ts V h;cases g
  .unfold Is at h;rcases h with ⟨t,rfl,h2,h3,_⟩|⟨a,inn,b,rfl,h2,h3,m,H,I⟩|⟨q,t,A,rfl,h2,h3,m,_⟩
   .let⟨C,c1,c2,c3⟩:=Oc h2 Qo;refine⟨C,by simpa[XW]using c1,λp i v o r e c=>?_⟩;have:=c3 p i v o r (by simpa[XW]using c);rw[this,show Pg.iR t.kd o=o by simp[Pg.iR,h3]];simp[XW]
   .let⟨j,O,P,G⟩:=Oc h2 Qo;let⟨y,Q,K⟩:=ih true inn V I;have k:b.w=[41]:=by
     rcases m with h|h|h|h|h|h|h|h
     all_goals first|(exact absurd h.1 Qo)|exact h.2
    refine⟨j+y+1,by simp[XW,k]at *;omega,λp i v o r e c=>?_⟩;have s:p.drop i=a.w++(XW inn++(41::r)):=by
     rw[c,XN,XT];simp[XW,k]
    have u:p.drop (i+a.w.length)=XW inn++(41::r):=by rw[<-YU,s,eL]
    have z:p.drop (i+a.w.length+(XW inn).length)=41::r:=by rw[<-YU,u,eL]
    rw[show v+(j+y+1)=(v+1+y)+j by omega,G p i _ o _ s,show Pg.iR a.kd o=o+1 by simp[Pg.iR,h3],K p _ _ (o+1) _ Qo u,Rf.jg,z];simp only;rw[dG Qd,dG Qd,dG Qd,dF trivial,g_,show o+1-1=o by omega];congr 1;rw[XN,XT];simp[XW,k];omega
   let⟨E,S,M⟩:=ih false q A h2;let⟨C,c1,c2,c3⟩:=Oc h3 (by unfold X3 at m;omega);refine⟨E+C,by rw[XT];simp[XW]at *;omega,λp i v o r e c=>?_⟩;rw[XT]at c ⊢;refine d (XW q) (XW [t]) E C M ?_ p i v o r e c;intro p i v o r e c;have:=c3 p i v o r (by simpa[XW]using c);rw[this,Lo m];simp[XW]
  unfold Is at h;rcases h with ⟨rfl,_⟩|⟨t,x,rfl,h2,h3,m⟩|⟨F,x,A,B,rfl,h2,h3,_,H⟩
  .exact⟨0,Qs,λp i v o r e c=>by simp[XW]⟩
  .let⟨C,c1,c2,c3⟩:=Oc h2 Qo;let⟨n,N,D⟩:=ih true x V m;refine⟨C+n,by rw[XN,Zl];omega,λp i v o r e c=>?_⟩;rw[XN]at c ⊢;refine d t.w (XW x) C n ?_ D p i v o r e c;intro p i v o r e c;rw[c3 p i v o r c,show Pg.iR t.kd o=o by simp[Pg.iR,h3]]
  let⟨Cp,R,L⟩:=ih false F A h2;let⟨n,N,D⟩:=ih true x B h3;refine⟨Cp+n,by rw[XT,Zl];omega,λp i v o r e c=>?_⟩;rw[XT]at c ⊢;exact d (XW F) (XW x) Cp n L D p i v o r e c
def yu:∀(f:Nat) (g:Bool) (ts:List Tk) (V:Int),Is f g ts V->∀t∈ts,UG t:=by
 intro f
 induction f with
 |zero=>intro g ts V h;exact absurd h (by simp[Is])
 |succ f ih=>
  intro g ts V h t c;cases g
  .unfold Is at h;rcases h with ⟨e,rfl,h2,_,_⟩|⟨a,inn,b,rfl,h2,_,d,_,i⟩|⟨q,e,A,rfl,h2,h3,_,_⟩
   .rw[ZC]at c;subst c;exact h2
   .simp only[ZR,ZU,eM,or_false]at c;rcases c with rfl|c|rfl
    .exact h2
    .exact ih _ _ _ i t c
    exact d
   simp only[ZU,ZC]at c;rcases c with c|rfl
   .exact ih _ _ _ h2 t c
   exact h3
  unfold Is at h;rcases h with ⟨rfl,_⟩|⟨e,r,rfl,h2,_,d⟩|⟨p,r,A,B,rfl,h2,h3,_,_⟩
  .exact absurd c Qs
  .rcases ZR.1 c with rfl|c
   .exact h2
   exact ih _ _ _ d t c
  rcases ZU.1 c with c|c
  .exact ih _ _ _ h2 t c
  exact ih _ _ _ h3 t c
def QJ(c:UInt8):Bool:=Rf.has Rf.suffixes c.toNat
def CY(c:UInt8):QJ c=true<->(c=42\/c=43\/c=63\/c=123):=by
 have h:∀d:UInt8,((d.toNat:Int)==(c.toNat:Int))=true<->c=d:=by
  intro d;rw[dq];constructor
  .intro h;exact(dV.1 Qo)
  intro h;rw[h]
 simp only[QJ,Rf.has,Rf.suffixes,dp,h,eN,or_false]
def WS{t:Tk}(h:UG t):∃c w,t.w=c::w/\(QJ c=true<->X3 t)/\(c=124<->t.kd=4)/\(c=40<->t.kd=2)/\(c=123<->t.kd=8):=by
 have a:∀(c:UInt8) (w:List UInt8) (k:Int),t.w=c::w->t.kd=k->(QJ c=true<->(k=5\/k=6\/k=7\/k=8))->(c=124<->k=4)->(c=40<->k=2)->(c=123<->k=8) ->
   ∃c w,t.w=c::w/\(QJ c=true<->X3 t)/\(c=124<->t.kd=4)/\(c=40<->t.kd=2)/\(c=123<->t.kd=8):=by
  intro c w k h1 h2 h3 f g i;refine⟨c,w,h1,?_,?_,?_,?_⟩
  .unfold X3;rw[h2];exact h3
  .rw[h2];exact f
  .rw[h2];exact g
  rw[h2];exact i
 rcases h with ⟨d,h⟩|⟨d,b⟩|⟨d,b⟩|⟨d,b⟩|⟨d,b⟩|⟨d,b⟩|⟨d,b⟩|⟨d,h⟩
 .rcases h with ⟨c,b,hs⟩|⟨e,v0,b,_⟩|⟨e,b,_⟩
  .unfold SW at hs;refine a c [] 1 b d ?_ ?_ ?_ ?_
   .rw[CY];constructor
    .intro h;exact absurd (by rcases h with h|h|h|h<;>simp[h]) hs
    intro h;omega
   .constructor
    .intro h;exact absurd (by simp[h]) hs
    intro h;omega
   .constructor
    .intro h;exact absurd (by simp[h]) hs
    intro h;omega
   constructor
   .intro h;exact absurd (by simp[h]) hs
   intro h;omega
  .exact a 92 e 1 b d Qd Qd Qd Qd
  exact a 91 e 1 b d Qd Qd Qd Qd
 .exact a 40 [] 2 b d Qd Qd Qd Qd
 .exact a 41 [] 3 b d Qd Qd Qd Qd
 .exact a 124 [] 4 b d Qd Qd Qd Qd
 .exact a 42 [] 5 b d Qd Qd Qd Qd
 .exact a 43 [] 6 b d Qd Qd Qd Qd
 .exact a 63 [] 7 b d Qd Qd Qd Qd
 rcases h with ⟨x,b,_⟩|⟨x,z,b,_⟩
 .exact a 123 _ 8 b d Qd Qd Qd Qd
 exact a 123 _ 8 b d Qd Qd Qd Qd
def VK{p:List UInt8}{f:Nat}{c:UInt8}{r:List UInt8}(z:p.drop i=c::r)(h:c≠125):Rf.i8 p (f+1) i=Rf.i8 p f (i+1):=by
 rw[Rf.i8,z];simp only[dG h]
def Mz{p:List UInt8}{f:Nat}{r:List UInt8}(z:p.drop i=125::r):Rf.i8 p (f+1) i=some (i+1):=by
 rw[Rf.i8,z];simp only[dB]
def OX{p:List UInt8}{l:List UInt8}(z:p.drop i=l):l.length=p.length-i:=by
 rw[<-z];simp
def NI{t:Tk}(h:UG t)(hs:X3 t)(p:List UInt8)(i:Nat)(r:List UInt8)(H:p.drop i=t.w++r):Rf.i0 p i=some (i+t.w.length):=by
 have one:∀c:UInt8,c≠123->t.w=[c]->Rf.i0 p i=some (i+t.w.length):=by
  intro c n a;rw[a]at H ⊢;rw[Rf.i0,H];simp only[Zt,dG n];rfl
 unfold X3 at hs;rcases h with ⟨d,_⟩|⟨d,_⟩|⟨d,_⟩|⟨d,_⟩|⟨d,a⟩|⟨d,a⟩|⟨d,a⟩|⟨d,h⟩
 .omega
 .omega
 .omega
 .omega
 .exact one 42 Qd a
 .exact one 43 Qd a
 .exact one 63 Qd a
 have b:∀x:UInt8,48<=(x.toNat:Int)->(x.toNat:Int)<=57->x≠125:=by
  intro x h1 h2 e;subst e;revert h1 h2;decide
 rcases h with ⟨x,a,x1,x2,_⟩|⟨x,z,a,x1,x2,o,q,_⟩
 .rw[a]at H ⊢;have f:p.drop (i+1)=x::125::r:=by rw[<-YU,H];rfl
  have g:p.drop (i+2)=125::r:=by rw[<-YU,H];rfl
  have j:=OX H;simp at j;obtain⟨v,k⟩:∃v,p.length+1=v+1+1+1:=⟨p.length-2,Qo⟩;rw[Rf.i0,H];simp only[Zt,dB];rw[k,VK H Qd,VK f (b x x1 x2),Mz g];rfl
 rw[a]at H ⊢;have f:p.drop (i+1)=x::44::z::125::r:=by rw[<-YU,H];rfl
 have g:p.drop (i+2)=44::z::125::r:=by rw[<-YU,H];rfl
 have l:p.drop (i+3)=z::125::r:=by rw[<-YU,H];rfl
 have m:p.drop (i+4)=125::r:=by rw[<-YU,H];rfl
 have j:=OX H;simp at j;obtain⟨v,k⟩:∃v,p.length+1=v+1+1+1+1+1:=⟨p.length-4,Qo⟩;rw[Rf.i0,H];simp only[Zt,dB];rw[k,VK H Qd,VK f (b x x1 x2),VK g Qd,VK l (b z o q),Mz m];rfl
def yy(ts:List Tk):Prop:=∀t∈ts,UG t/\X3 t
def Oq{ts:List Tk}(h:∀t∈ts,UG t):ts.length<=(XW ts).length:=by
 induction ts with
 |nil=>simp
 |cons t r ih=>
  let⟨c,w,b,_⟩:=WS (h t Qs);have:=ih (λd a=>h d (by simp[a]));rw[XN,Zl,b];simp;omega
def Nj:∀(ts:List Tk),yy ts->∀(p:List UInt8) (i f:Nat) (r:List UInt8),p.drop i=XW ts++r->(∀c r',r=c::r'->QJ c=false)->ts.length<f->Rf.jk p f i=some (i+(XW ts).length):=by
 intro ts
 induction ts with
 |nil=>
  intro _ p i f r a h j;obtain⟨f,rfl⟩:∃q,f=q+1:=⟨f-1,Qo⟩;simp only[XW,List.flatMap_nil,dz,eO,eP]at a ⊢;rw[Rf.jk,a];rcases r with _|⟨c,r'⟩
  .rfl
  have:=h c r' rfl;unfold QJ at this;simp only[this];rfl
 |cons t ts ih=>
  intro hs p i f r a h j;obtain⟨f,rfl⟩:∃q,f=q+1:=⟨f-1,Qo⟩;let⟨h1,h2⟩:=hs t Qs;rw[XN,Zs]at a;let⟨c,w,m,k,_⟩:=WS h1;have d:=k.2 h2;unfold QJ at d;have b:=NI h1 h2 p i _ a;have g:p.drop (i+t.w.length)=XW ts++r:=by rw[<-YU,a,eL]
  have e:=a;rw[m,Zt]at e;rw[Rf.jk,e];simp only[d,dB];rw[b];simp only;rw[ih (λn l=>hs n (by simp[l])) p _ f r g h (by simp at j;omega),XN,Zl,ZN]
def NG:∀(ts:List Tk),yy ts->∀(t:Tk),UG t->X3 t->∀(p:List UInt8) (i z f:Nat),p.drop i=XW ts++t.w->ts.length+1<f->Rf.jy p f i z=some (i+(XW ts).length):=by
 intro ts
 induction ts with
 |nil=>
  intro _ t h1 h2 p i z f d g;obtain⟨f,rfl⟩:∃q,f=q+1+1:=⟨f-2,by simp at g;omega⟩;have b:p.drop i=t.w++[]:=by rw[d];simp[XW]
  have a:=NI h1 h2 p i [] b;have e:p.drop (i+t.w.length)=[]:=by rw[<-YU,b,eL]
  let⟨c,w,h,_⟩:=WS h1;rw[h,Zt]at b;rw[Rf.jy,b];simp only[a];rw[Rf.jy,e];rfl
 |cons t0 ts ih=>
  intro hs t h1 h2 p i z f d g;obtain⟨f,rfl⟩:∃q,f=q+1:=⟨f-1,Qo⟩;let⟨g1,g2⟩:=hs t0 Qs;rw[XN,Zs]at d;have a:=NI g1 g2 p i _ d;have e:p.drop (i+t0.w.length)=XW ts++t.w:=by rw[<-YU,d,eL]
  let⟨c,w,h,_⟩:=WS g1;rw[h,Zt]at d;rw[Rf.jy,d];simp only[a];rw[ih (λk j=>hs k (by simp[j])) t h1 h2 p _ i f e (by simp at g;omega),XN,Zl,ZN]
def Vv:∀(f:Nat) (p:List Tk) (V:Int),Is f false p V->∃(base:List UInt8) (J:List Tk),XW p=base++XW J/\yy J/\(∃c w,base=c::w/\c≠124)/\∀r,Rf.jw (base++r)=some base.length:=by
 intro f
 induction f with
 |zero=>intro p V h;exact absurd h (by simp[Is])
 |succ f ih=>
  intro p V h;unfold Is at h;rcases h with ⟨t,rfl,h2,h3,rfl⟩|⟨a,inn,b,rfl,h2,h3,l,H,D⟩|⟨q,t,A,rfl,h2,h3,l,_⟩
  .let⟨c,w,g,_,E,B,_⟩:=WS h2;refine⟨t.w,[],by simp[XW],(by intro s d;simp at d),⟨c,w,g,λe=>by have:=E.1 e;omega⟩,λr=>?_⟩;have F:PZ t.w:=by
    rcases h2 with h|h|h|h|h|h|h|h
    all_goals first|(exact absurd h.1 Qo)|exact h.2
   rcases F with ⟨c,g,hs⟩|⟨e,v0,g,j⟩|⟨e,g,k⟩
   .unfold SW at hs;rw[g,Zt,Rf.jw]
    (try simp only)
    rw[dG (λe=>hs (by simp[e])),dG (λe=>hs (by simp[e])),dG (λe=>hs (by simp[e]))];rfl
   .rw[g,Zt,Rf.jw];simp only[dB];rw[j r];rfl
   let⟨fa,inn,hs⟩:=k r 0;rw[g,Zt,Rf.jw];simp only;rw[dG Qd,dF trivial,hs];simp
  .have m:a.w=[40]:=by
    rcases h2 with h|h|h|h|h|h|h|h
    all_goals first|(exact absurd h.1 Qo)|exact h.2
   have n:b.w=[41]:=by
    rcases l with h|h|h|h|h|h|h|h
    all_goals first|(exact absurd h.1 Qo)|exact h.2
   have d:XW (a::(inn++[b]))=40::(XW inn++[41]):=by
    rw[XN,XT,m];simp[XW,n]
   refine⟨40::(XW inn++[41]),[],by rw[d];simp[XW],(by intro s d;simp at d),⟨40,_,rfl,Qd⟩,λr=>?_⟩;let⟨C,c1,c2⟩:=xF f true inn V D;rw[Zt,Rf.jw];simp only;rw[dG Qd,dG Qd,dF trivial,Rf.jg,Zw];simp only;rw[dG Qd,dG Qd,dF trivial];have u:(XW inn++[41]++r).length=(XW inn).length+1+r.length:=Qp
   obtain⟨v,G⟩:∃v,(XW inn++[41]++r).length+1=(v+1)+C:=⟨(XW inn).length+1+r.length-C,Qo⟩;have i:(40::(XW inn++[41]++r)).drop (0+1)=XW inn++(41::r):=Qs
   have o:(40::(XW inn++[41]++r)).drop (0+1+(XW inn).length)=41::r:=by rw[<-YU,i,eL]
   rw[G,c2 _ _ (v+1) (0+1) (41::r) Qo i,Rf.jg,o];simp only;rw[dG Qd,dG Qd,dG Qd,dF trivial,dF Qd];simp;omega
  let⟨base,J,x,e2,y,z⟩:=ih q A h2;refine⟨base,J++[t],by rw[XT,XT,x,Zs],?_,y,z⟩;intro s d;rcases ZU.1 d with d|d
  .exact e2 s d
  rw[ZC]at d;subst d;exact⟨h3,l⟩
def BL{r:List Tk}(h:∀t∈r,UG t)(z:∀t r',r=t::r'->¬X3 t):∀c r',XW r=c::r'->QJ c=false:=by
 intro c r' a;rcases r with _|⟨t,r⟩
 .simp[XW]at a
 let⟨d,w,e,b,_⟩:=WS (h t Qs);rw[XN,e,Zt]at a;injection a with he1 he2;subst he1;cases hb:QJ d
 .rfl
 exact absurd (b.1 hb) (z t r rfl)
def M5{w:List UInt8}(h:Ty w mo):Rf.most w=some mo:=by
 have a:∀x:UInt8,48<=(x.toNat:Int)->(x.toNat:Int)<=57->Rf.iT x.toNat=true:=by
  intro x h1 h2;simp[Rf.iT];omega
 rcases h with ⟨x,rfl,x1,x2,rfl⟩|⟨x,z,rfl,x1,x2,b,c,rfl⟩
 .simp[Rf.most,a x x1 x2]
 simp[Rf.most,a x x1 x2,a z b c]
def Bn:∀(f:Nat) (g:Bool) (ts:List Tk) (V:Int),Is f g ts V->∃G,∀v,Rf.cnt (v+G) g (XW ts)=some V:=by
 intro f
 induction f with
 |zero=>intro g ts V h;exact absurd h (by simp[Is])
 |succ f ih=>
  intro g ts V h;have E:=yu _ _ _ _ h;cases g
  .have h0:=h;unfold Is at h;rcases h with ⟨t,rfl,h2,h3,rfl⟩|⟨a,inn,b,rfl,h2,h3,x,Y,Z⟩|⟨q,t,A,rfl,h2,h3,x,rfl⟩
   .refine⟨1,λv=>?_⟩;let⟨base,d,i,e2,e3,J⟩:=Vv 1 [t] 1 (Or.inl ⟨t,rfl,h2,h3,rfl⟩);let⟨c,w,l,T,P,y,_⟩:=WS h2;have o:XW [t]=t.w:=by simp[XW]
    have hp:PZ t.w:=by
     rcases h2 with h|h|h|h|h|h|h|h
     all_goals first|(exact absurd h.1 Qo)|exact h.2
    have n:Rf.jw t.w=some t.w.length:=by
     rcases hp with ⟨c,l,hs⟩|⟨e,v0,l,H⟩|⟨e,l,I⟩
     .unfold SW at hs;rw[l,Rf.jw]
      (try simp only)
      rw[dG (λe=>hs (by simp[e])),dG (λe=>hs (by simp[e])),dG (λe=>hs (by simp[e]))];rfl
     .have:=H [];rw[dv]at this;rw[l,Rf.jw];simp only[dB];rw[this];rfl
     let⟨fa,inn,hs⟩:=I [] 0;rw[dv]at hs;rw[l,Rf.jw];simp only;rw[dG Qd,dF trivial,hs];simp
    have k:Rf.split t.w=some t.w.length:=by
     rw[Rf.split,n];simp only;rw[Rf.jy,eQ]
    rw[o,Rf.cnt.eq_def];simp only[k,eQ];rw[l];simp only;rw[dG (λe=>by have:=y.1 e;omega)]
   .let⟨G,D⟩:=ih true inn V Z;have N:a.w=[40]:=by
     rcases h2 with h|h|h|h|h|h|h|h
     all_goals first|(exact absurd h.1 Qo)|exact h.2
    have O:b.w=[41]:=by
     rcases x with h|h|h|h|h|h|h|h
     all_goals first|(exact absurd h.1 Qo)|exact h.2
    have o:XW (a::(inn++[b]))=40::(XW inn++[41]):=by
     rw[XN,XT,N];simp[XW,O]
    refine⟨G+1,λv=>?_⟩;let⟨C,c1,c2⟩:=xF f true inn V Z;have n:Rf.jw (40::(XW inn++[41]))=some (40::(XW inn++[41])).length:=by
     rw[Rf.jw];simp only;rw[dG Qd,dG Qd,dF trivial,Rf.jg,Zw];simp only;rw[dG Qd,dG Qd,dF trivial];have aa:(XW inn++[41]).length=(XW inn).length+1:=Qs
     obtain⟨v,hv⟩:∃v,(XW inn++[41]).length+1=(v+1)+C:=⟨(XW inn).length+1-C,Qo⟩;have F:(40::(XW inn++[41])).drop (0+1)=XW inn++[41]:=Qs
     have Q:(40::(XW inn++[41])).drop (0+1+(XW inn).length)=[41]:=by rw[<-YU,F,eL]
     rw[hv,c2 _ _ (v+1) (0+1) [41] Qo F,Rf.jg,Q];simp only;rw[dG Qd,dG Qd,dG Qd,dF trivial,dF Qd];simp;omega
    have k:Rf.split (40::(XW inn++[41]))=some (40::(XW inn++[41])).length:=by
     rw[Rf.split,n];simp only;rw[Rf.jy,eQ]
    rw[o,show v+(G+1)=(v+G)+1 by omega,Rf.cnt.eq_def];have hx:(XW inn++[41]).length-1=(XW inn).length:=Qs
    have hy:¬(XW inn++[41]).length=0:=Qs
    simp only[k,eQ,dB,dG hy,hx,eR];exact D v
   let⟨G,D⟩:=ih false q A h2;let⟨base,d,i,e2,e3,J⟩:=Vv f q A h2;let⟨c,w,l,T,P,y,m⟩:=WS h3;have o:XW (q++[t])=XW q++t.w:=by rw[XT];simp[XW]
   have hl:=Oq (λX s=>(e2 X s).1);have k:Rf.split (XW q++t.w)=some (XW q).length:=by
    have ha:Rf.jw (XW q++t.w)=some base.length:=by rw[i,Zs];exact J _
    rw[Rf.split,ha];simp only;rw[NG d e2 t h3 x _ base.length base.length _ (by rw[i,Zs,eL]) (by rw[Zl,l,i,Zl,dZ];omega),i,Zl]
   refine⟨G+1,λv=>?_⟩;rw[o,show v+(G+1)=(v+G)+1 by omega,Rf.cnt.eq_def];simp only[k,eL,eR];rw[l];simp only;rw[D];simp only;by_cases z:t.kd=8
   .rw[dF (m.2 z),dF z,<-l,M5 (M3 h3 z).2];rfl
   rw[dG (λe=>z (m.1 e)),dG z]
  unfold Is at h;rcases h with ⟨rfl,rfl⟩|⟨t,r,rfl,h2,h3,x⟩|⟨p,r,A,B,rfl,h2,h3,rfl,Y⟩
  .exact⟨1,λv=>rfl⟩
  .let⟨G,D⟩:=ih true r V x;have W:t.w=[124]:=by
    rcases h2 with h|h|h|h|h|h|h|h
    all_goals first|(exact absurd h.1 Qo)|exact h.2
   refine⟨G+1,λv=>?_⟩;rw[XN,W,show v+(G+1)=(v+G)+1 by omega,eS,Rf.cnt];simp only[dB];exact D v
  let⟨u,L⟩:=ih false p A h2;let⟨Gr,M⟩:=ih true r B h3;let⟨base,d,i,e2,⟨c,w,hb,P⟩,J⟩:=Vv f p A h2;have hl:=Oq (λX s=>(e2 X s).1);have S:Rf.iV (XW p++XW r)=some (XW p).length:=by
   have ha:Rf.jw (XW p++XW r)=some base.length:=by rw[i,Zs];exact J _
   rw[Rf.iV,ha];simp only;rw[Nj d e2 _ base.length _ (XW r) (by rw[i,Zs,eL]) (BL (λt o=>E t (by simp[o])) Y) (by rw[Zl,i,Zl];omega),i,Zl]
  refine⟨u+Gr+1,λv=>?_⟩;obtain⟨K,j⟩:∃K,XW p++XW r=c::K:=⟨_,by rw[i,hb];rfl⟩;have U:(c::K).take (XW p).length=XW p:=by rw[<-j,eR]
  have R:(c::K).drop (XW p).length=XW r:=by rw[<-j,eL]
  rw[XT,j,show v+(u+Gr+1)=(v+u+Gr)+1 by omega,Rf.cnt]
  (try simp only)
  rw[dG P,<-j,S];simp only;rw[j,U,R,M (v+u),show v+u+Gr=(v+Gr)+u by omega,L]
def zq(s:ByteArray)(k:Nat)(c:UInt8)(r:List UInt8)(hd:s.data.toList.drop k=c::r)(h0:Pg.hY (Y7 s k)≠0)(aa:(Pg.gV (Y7 s) s.size k (Pg.hY (Y7 s k))).ok=true):
  ∃n:Nat,1<=n/\k+n<=s.size/\(Pg.gV (Y7 s) s.size k (Pg.hY (Y7 s k))).n=((k+n:Nat):Int)/\UG ⟨(s.data.toList.drop k).take n,Pg.hY (Y7 s k),(Pg.gV (Y7 s) s.size k (Pg.hY (Y7 s k))).mo⟩:=by
 have d:Y7 s (k:Int)=c.toNat:=by rw[Sv hd];rfl
 have V:=Xu hd;have Q:r.length+1=s.size-k:=by
  have:(s.data.toList.drop k).length=s.size-k:=Qs
  rw[hd]at this;simpa using this
 by_cases w:c=91
 .subst w;have C:Pg.hY (Y7 s k)=1:=by rw[d];rfl
  have e:Y7 s (k:Int)=91:=d;rw[C]at aa ⊢;have B:Pg.gV (Y7 s) s.size k 1=⟨(Pg.gM (Y7 s) s.size k).n,(Pg.gM (Y7 s) s.size k).ok,(Pg.gM (Y7 s) s.size k).f,0,(Pg.gM (Y7 s) s.size k).fa⟩:=by
   rw[Pg.gV,dF rfl,Pg.iC,dF e]
  rw[B]at aa ⊢;rcases PI s k r 0 0 0 (Or.inl rfl) hd with ⟨n,F,FA,h1,h2,h3,S,_⟩|⟨h1,_⟩
  .refine⟨n-k,Qo,Qo,?_,Or.inl ⟨rfl,Or.inr (Or.inr ⟨r.take (n-k-1),?_,λl I=>?_⟩)⟩⟩
   .rw[h3,show k+(n-k)=n by omega]
   .show(s.data.toList.drop k).take (n-k)=_;rw[hd,show n-k=(n-k-1)+1 by omega,ZK];rfl
   let⟨fa,h⟩:=Lv S l I;refine⟨fa,F,?_⟩;rw[h,eE,show I+(n-k)=I+(min (n-k-1) r.length+1) by omega]
  rw[h1]at aa;cases aa
 by_cases y:c=92
 .subst y;have C:Pg.hY (Y7 s k)=1:=by rw[d];rfl
  have e:Y7 s (k:Int)=92:=d;rw[C]at aa ⊢;have B:Pg.gV (Y7 s) s.size k 1=⟨(Pg.iz (Y7 s) k).n,(Pg.iz (Y7 s) k).ok,Pg.gY (λ_=>false) (Pg.iz (Y7 s) k).v (Pg.iz (Y7 s) k).v,0,-1⟩:=by
   rw[Pg.gV,dF rfl,Pg.iC,dG (by rw[e];decide),dG (by rw[e];decide),dF e]
  rw[B]at aa ⊢;rcases RY s k r hd with ⟨n,v,h1,h2,h3,_⟩|⟨n,h1,_⟩
  .refine⟨n+1,Qo,Qo,by rw[h1],Or.inl ⟨rfl,Or.inr (Or.inl ⟨r.take n,v,?_,λl=>?_⟩)⟩⟩
   .show(s.data.toList.drop k).take (n+1)=_;rw[hd,ZK]
   have:=TV h2 l;rw[ZK,Zt]at this;rw[this,eE,Nat.min_eq_left h3]
  rw[h1]at aa;cases aa
 by_cases g:c=123
 .subst g;have C:Pg.hY (Y7 s k)=8:=by rw[d];rfl
  rw[C]at aa ⊢;have B:Pg.gV (Y7 s) s.size k 8=⟨(Pg.iB (Y7 s) k).n,(Pg.iB (Y7 s) k).ok,λ_=>false,(Pg.iB (Y7 s) k).v,Pg.gZ (Y7 s) k⟩:=rfl;rw[B]at aa ⊢;rcases OO s k r 0 0 hd with ⟨n,mo,le,h1,_,h3,_⟩|⟨h1,_⟩
  .rw[h1];have U:Ty ((123::r).take n) mo:=by
    rcases h3 with ⟨x,l,rfl,rfl,x1,x2,rfl,_⟩|⟨x,z,l,rfl,rfl,x1,x2,Y,Z,rfl,_⟩
    .exact Or.inl ⟨x,rfl,x1,x2,rfl⟩
    exact Or.inr ⟨x,z,rfl,x1,x2,Y,Z,rfl⟩
   have W:1<=n/\n<=r.length+1:=by
    rcases h3 with ⟨x,l,rfl,rfl,_⟩|⟨x,z,l,rfl,rfl,_⟩<;>(simp)
   refine⟨n,W.1,Qo,rfl,?_⟩;rw[hd];exact Or.inr (Or.inr (Or.inr (Or.inr (Or.inr (Or.inr (Or.inr ⟨rfl,U⟩))))))
  rw[h1]at aa;cases aa
 have a:∀kd:Int,kd≠1->kd≠8->Pg.gV (Y7 s) s.size k kd=⟨(k:Int)+1,true,λ_=>false,0,-1⟩:=λkd h1 T=>by rw[Pg.gV,dG h1,dG T]
 have D:(s.data.toList.drop k).take 1=[c]:=by rw[hd];rfl
 have b:∀kd:Int,Pg.hY (Y7 s k)=kd->(Pg.gV (Y7 s) s.size k kd).n=(k:Int)+1->UG ⟨[c],kd,(Pg.gV (Y7 s) s.size k kd).mo⟩ ->
   ∃n:Nat,1<=n/\k+n<=s.size/\(Pg.gV (Y7 s) s.size k (Pg.hY (Y7 s k))).n=((k+n:Nat):Int)/\UG ⟨(s.data.toList.drop k).take n,Pg.hY (Y7 s k),(Pg.gV (Y7 s) s.size k (Pg.hY (Y7 s k))).mo⟩:=by
  intro kd h1 h2 h3;rw[h1];exact⟨1,Qo,Qo,by rw[h2];rfl,by rw[D];exact h3⟩
 by_cases m:c=40
 .subst m;exact b 2 (by rw[d];rfl) (by rw[a 2 Qd Qd]) (Or.inr (Or.inl ⟨rfl,rfl⟩))
 by_cases o:c=41
 .subst o;exact b 3 (by rw[d];rfl) (by rw[a 3 Qd Qd]) (Or.inr (Or.inr (Or.inl ⟨rfl,rfl⟩)))
 by_cases i:c=124
 .subst i;exact b 4 (by rw[d];rfl) (by rw[a 4 Qd Qd]) (Or.inr (Or.inr (Or.inr (Or.inl ⟨rfl,rfl⟩))))
 by_cases p:c=42
 .subst p;exact b 5 (by rw[d];rfl) (by rw[a 5 Qd Qd]) (Or.inr (Or.inr (Or.inr (Or.inr (Or.inl ⟨rfl,rfl⟩)))))
 by_cases q:c=43
 .subst q;exact b 6 (by rw[d];rfl) (by rw[a 6 Qd Qd]) (Or.inr (Or.inr (Or.inr (Or.inr (Or.inr (Or.inl ⟨rfl,rfl⟩))))))
 by_cases u:c=63
 .subst u;exact b 7 (by rw[d];rfl) (by rw[a 7 Qd Qd]) (Or.inr (Or.inr (Or.inr (Or.inr (Or.inr (Or.inr (Or.inl ⟨rfl,rfl⟩)))))))
 by_cases A:c=93
 .subst A;exact absurd (by rw[d];rfl) h0
 by_cases j:c=125
 .subst j;exact absurd (by rw[d];rfl) h0
 have O:(c.toNat:Int)≠91:=Yr w;have P:(c.toNat:Int)≠92:=Yr y;have E:(c.toNat:Int)≠123:=Yr g;have J:(c.toNat:Int)≠40:=Yr m;have K:(c.toNat:Int)≠41:=Yr o;have G:(c.toNat:Int)≠124:=Yr i;have L:(c.toNat:Int)≠42:=Yr p;have M:(c.toNat:Int)≠43:=Yr q;have N:(c.toNat:Int)≠63:=Yr u;have X:(c.toNat:Int)≠93:=Yr A;have R:(c.toNat:Int)≠125:=Yr j;have H:Pg.hY (Y7 s k)=1:=by
  rw[d];unfold Pg.hY;rw[g_,dG J,dG K,dG G,dG L,dG M,dG N,dG E]
 refine b 1 H ?_ (Or.inl ⟨rfl,Or.inl ⟨c,rfl,?_⟩⟩)
 .rw[Pg.gV,dF rfl,Pg.iC,d,dG O];by_cases t:(c.toNat:Int)=46
  .rw[dF t]
  rw[dG t,dG P]
 unfold SW;intro h;rcases h with h|h|h|h|h|h|h|h|h|h|h<;>contradiction
def Cx(s:ByteArray):∀(u k:Nat) (H op:Int) (z:List Pg.Pt),s.size<u+k->k<=s.size->(Pg.ij (Y7 s) s.size u H op k z).ok=true ->
  ∃ps ts,(Pg.ij (Y7 s) s.size u H op k z).ps=z++ps/\XW ts=s.data.toList.drop k/\AX ts H op/\ps.map (λp=>(p.kd,p.mo))=ts.map (λt=>(t.kd,t.mo)):=by
 intro u
 induction u with
 |zero=>intro k H op z h1 h2;omega
 |succ u ih=>
  intro k H op z q o a;rcases hd:s.data.toList.drop k with _|⟨c,r⟩
  .have h:k=s.size:=by
    have:s.size<=k:=by simpa using hd
    omega
   have d:¬(k:Int)<(s.size:Int):=Qo
   rw[Pg.ij,dG d]at a ⊢;exact⟨[],[],Qs,rfl,by simpa[AX]using a,rfl⟩
  have i:=Xu hd;have b:(k:Int)<(s.size:Int):=Qo
  rw[Pg.ij,dF b]at a ⊢;cases hc:Pg.gX (Pg.hY (Y7 s k)) H op
  .rw[hc]at a;cases a
  rw[hc]at a;simp only[dB]at a ⊢;cases hp:(Pg.gV (Y7 s) s.size k (Pg.hY (Y7 s k))).ok
  .rw[hp]at a;cases a
  rw[hp]at a;simp only[dB]at a ⊢;have h0:Pg.hY (Y7 s k)≠0:=by
   intro e;rw[e]at hc;simp[Pg.gX]at hc
  let⟨n,v,j,l,m⟩:=zq s k c r hd h0 hp;rw[l]at a ⊢;let⟨ps,ts,g1,g2,f,g⟩:=ih (k+n) _ _ _ Qo j a;refine⟨_::ps,⟨(s.data.toList.drop k).take n,Pg.hY (Y7 s k),(Pg.gV (Y7 s) s.size k (Pg.hY (Y7 s k))).mo⟩::ts,by rw[g1,Zs];rfl,?_,⟨m,hc,f⟩,?_⟩
  .rw[XN,g2,<-hd,<-YU,eD]
  simp only[dt,g]
def Re:∀(ps z:List Pg.Pt),ps.map (λp=>(p.kd,p.mo))=z.map (λp=>(p.kd,p.mo))->∀c,Pg.cRun ps c=Pg.cRun z c:=by
 intro ps
 induction ps with
 |nil=>
  intro z h c;rcases z with _|⟨q,z⟩
  .rfl
  simp at h
 |cons p ps ih=>
  intro z h c;rcases z with _|⟨q,z⟩
  .simp at h
  simp only[dt,List.cons.injEq,dW]at h;let⟨⟨h1,h2⟩,h3⟩:=h;have hs:Pg.iE c p=Pg.iE c q:=by unfold Pg.iE;rw[h1,h2]
  simp only[Pg.cRun];rw[hs];exact ih z h3 _
def Kg(s:ByteArray)(h:(Pg.ie (Y7 s) s.size).ok=true):∃V g,Rf.cnt g true s.data.toList=some V/\0<=V/\Pg.ig (Pg.ie (Y7 s) s.size).ps=Pg.gW V:=by
 unfold Pg.ie at h ⊢;let⟨ps,ts,h1,h2,h3,l⟩:=Cx s ((s.size:Int).toNat+1) 0 0 0 [] Qo Qo h;have d:∀t r,ts=t::r->¬X3 t:=by
  intro t r e hs;rw[e]at h3;have:=h3.2.1;unfold X3 at hs;simp[Pg.gX,Pg.hJ,Pg.gI]at this;rcases hs with h|h|h|h<;>simp[h]at this
 let⟨f,inn,rest,V,g1,g2,k⟩:=zn ts.length ts 0 0 (Zg _) (eT _) h3 d;have a:rest=[]:=by
  rcases k with ⟨h,_⟩|⟨b,r,_,_,_,h,_⟩
  .exact h
  omega
 rw[a,dv]at g1;subst g1;let⟨G,m⟩:=Bn f true ts V g2;let⟨o,_,n⟩:=machine f true ts V g2;let⟨p,q,i,_,_,j⟩:=n rfl ⟨0,0,[]⟩ Qs Qs;refine⟨V,G,?_,o,?_⟩
 .have:=m 0;rw[h2,Zw,Zn]at this;exact this
 have c:(Pg.ij (Y7 s) (s.size:Int) ((s.size:Int).toNat+1) 0 0 0 []).ps=ps:=by
  have:=h1;rw[dz]at this;exact this
 rw[c,Pg.ig,Re ps (ts.map U5) (by rw[l,List.map_map];rfl),i];simp only;rw[j];simp
def XQ(s:ByteArray):Rf.iW s.data.toList (Pg.gP (Y7 s) s.size).1 (Pg.gP (Y7 s) s.size).2/\((Pg.gP (Y7 s) s.size).1=0->(Pg.gP (Y7 s) s.size).2=0/\s.size<=40/\(Pg.ie (Y7 s) s.size).ok=true):=by
 have H:s.data.toList.length=s.size:=Qs
 by_cases t:40<s.size
 .have:Pg.gP (Y7 s) s.size=(2,0):=by rw[Pg.gP,p_]
  rw[this];exact⟨Or.inl ⟨Qo,rfl,rfl⟩,λh=>by simp at h⟩
 have y:Pg.gP (Y7 s) s.size=if (Pg.ie (Y7 s) s.size).ok then
  (if Pg.tooDeep (Pg.ie (Y7 s) s.size).ps 0=-1 then
   (if Pg.falling (Pg.ie (Y7 s) s.size).ps=-1 then
    (if Pg.matchless (Pg.ie (Y7 s) s.size).ps=-1 then (0,0) else (6,Pg.matchless (Pg.ie (Y7 s) s.size).ps))
   else (5,Pg.falling (Pg.ie (Y7 s) s.size).ps))
  else (4,Pg.tooDeep (Pg.ie (Y7 s) s.size).ps 0))
  else (3,(Pg.ie (Y7 s) s.size).n):=by rw[Pg.gP,g_]
 rw[y];have g:=O0 s ((s.size:Int).toNat+1) 0 0 0 0 [] Qo Qo Qo;have i:WV 0=0:=rfl;rw[i,Zw]at g;have w:Pg.ij (Y7 s) s.size ((s.size:Int).toNat+1) 0 0 ((0:Nat):Int) []=Pg.ie (Y7 s) s.size:=rfl;rw[w]at g;rcases g with ⟨h1,h2,h3⟩|⟨ps,h1,h2,h3,r,⟨G,j⟩,⟨F,u⟩,v⟩
 .rw[h1];simp only[eN,eU];have b:Rf.form s.data.toList=(Pg.ie (Y7 s) s.size).n:=h2;exact⟨Or.inr ⟨Qo,Or.inl ⟨by rw[b];exact h3,rfl,b.symm⟩⟩,λh=>by simp at h⟩
 rw[dz]at h2;rw[h1,h2];simp only[dB];have b:Rf.form s.data.toList<0:=by
  have:Rf.form s.data.toList=-1:=h3;omega
 have a:Rf.deep s.data.toList=Pg.tooDeep ps 0:=r Qo;have f:∀(ps:List Pg.Pt) (op:Int),(∀p∈ps,0<=p.pl/\-1<=p.fa)->(Pg.tooDeep ps op=-1\/0<=Pg.tooDeep ps op)/\(Pg.falling ps=-1\/0<=Pg.falling ps)/\(Pg.matchless ps=-1\/0<=Pg.matchless ps):=by
  intro ps
  induction ps with
  |nil=>intro op _;exact⟨Or.inl rfl,Or.inl rfl,Or.inl rfl⟩
  |cons p ps ih=>
   intro op m;let⟨z,A,B⟩:=ih (Pg.iR p.kd op) (λq x=>m q (by simp[x]));let⟨o,I⟩:=m p Qs;refine⟨?_,?_,?_⟩
   .rw[Pg.tooDeep];split
    .exact Or.inr o
    exact z
   .rw[Pg.falling];split
    .exact A
    exact Or.inr Qo
   rw[Pg.matchless];split
   .exact Or.inr o
   exact B
 let⟨C,D,E⟩:=f ps 0 v;by_cases c:Pg.tooDeep ps 0=-1
 .rw[dF c];by_cases d:Pg.falling ps=-1
  .rw[dF d];have l:=j 0;have k:=u 0;by_cases e:Pg.matchless ps=-1
   .rw[dF e];exact⟨Or.inr ⟨Qo,Or.inr ⟨b,Or.inr ⟨by rw[a,c];decide,_,_,l,Or.inr ⟨by rw[d];decide,_,_,k,Or.inr ⟨by rw[e];decide,rfl,rfl⟩⟩⟩⟩⟩,λ_=>⟨rfl,Qo,trivial⟩⟩
   rw[dG e];exact⟨Or.inr ⟨Qo,Or.inr ⟨b,Or.inr ⟨by rw[a,c];decide,_,_,l,Or.inr ⟨by rw[d];decide,_,_,k,Or.inl ⟨Qo,rfl,rfl⟩⟩⟩⟩⟩,λh=>by simp at h⟩
  rw[dG d];exact⟨Or.inr ⟨Qo,Or.inr ⟨b,Or.inr ⟨by rw[a,c];decide,_,_,j 0,Or.inl ⟨Qo,rfl,rfl⟩⟩⟩⟩,λh=>by simp at h⟩
 rw[dG c];exact⟨Or.inr ⟨Qo,Or.inr ⟨b,Or.inl ⟨Qo,rfl,a.symm⟩⟩⟩,λh=>by simp at h⟩
def NJ{u:Nat->Int}:∀n,(∀i,i<n->0<=u i)->0<=X8 u n
 |0,_=>eT _
 |n+1,h=>by simp only[X8];have:=NJ n (λi a=>h i Qo);have:=h n Qo;omega
def KI{u v:Nat->Int}:∀n,(∀i,i<n->0<=v i/\u i=Pg.gW (v i))->(96<X8 u n<->96<X8 v n)/\(¬96<X8 v n->X8 u n=X8 v n)
 |0,_=>⟨Iff.rfl,λ_=>rfl⟩
 |n+1,h=>by
  let⟨h1,h2⟩:=KI n (λi a=>h i Qo);let⟨v0,b⟩:=h n Qo;have c:=NJ n (λi a=>(h i Qo).1);have d:0<=X8 u n:=NJ n (λi a=>by rw[(h i Qo).2];exact US (h i Qo).1);simp only[X8];rw[b,VJ];split
  .constructor
   .omega
   intro;omega
  by_cases hs:96<X8 v n
  .have:=h1.2 hs;constructor
   .omega
   intro;omega
  have:=h2 hs;constructor
  .omega
  intro;omega
