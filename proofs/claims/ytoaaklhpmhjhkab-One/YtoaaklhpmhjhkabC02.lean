import Derived.Test.YtoaaklhpmhjhkabC01
set_option maxRecDepth 100000
set_option maxHeartbeats 4000000
set_option linter.all false
namespace Go.Proofs.Ytoaaklhpmhjhkab
open Go.RowKit
def at_ (t:List UInt8) (j:Nat):Int:=match t[j]? with|some c=>(c.toNat:Int)|none=>-1
theorem Wd (s:ByteArray) (k j:Nat):Y5 s ((k:Int)+(j:Int))=at_ (s.data.toList.drop k) j:=by
 unfold at_ Y5;rw[List.getElem?_drop];by_cases h:k+j<s.size
 ·rw[if_pos ⟨by omega,by omega⟩,show((k:Int)+(j:Int)).toNat=k+j by omega,List.getElem?_eq_getElem (by simpa using h),List.getD_eq_getElem?_getD,List.getElem?_eq_getElem (by simpa using h)];rfl
 ·rw[if_neg (by omega),List.getElem?_eq_none (by simp;omega)]
variable {b' m' : Int}{r : List UInt8}{i k n : Nat}{c : UInt8}
theorem US {s:ByteArray}{t:List UInt8} (h:s.data.toList.drop k=t):Y5 s (k:Int)=at_ t 0:=by
 have:=Wd s k 0;rw[h]at this;simpa using this
theorem NI {s:ByteArray}{t:List UInt8} (h:s.data.toList.drop k=t):Y5 s ((k:Int)+1)=at_ t 1:=by
 have:=Wd s k 1;rw[h]at this;simpa using this
theorem Ic {s:ByteArray}{t:List UInt8} (h:s.data.toList.drop k=t):Y5 s ((k:Int)+2)=at_ t 2:=by
 have:=Wd s k 2;rw[h]at this;simpa using this
theorem Id {s:ByteArray}{t:List UInt8} (h:s.data.toList.drop k=t):Y5 s ((k:Int)+3)=at_ t 3:=by
 have:=Wd s k 3;rw[h]at this;simpa using this
theorem GA {s:ByteArray}{t:List UInt8} (h:s.data.toList.drop k=t):Y5 s ((k:Int)+4)=at_ t 4:=by
 have:=Wd s k 4;rw[h]at this;simpa using this
theorem Sd (c:Int):Rf.hex c=decide (0<=Pg.hexValue c):=by
 unfold Rf.hex Rf.digit Pg.hexValue Pg.digitValue;rw[Bool.eq_iff_iff];simp only[Bool.or_eq_true,Bool.and_eq_true,decide_eq_true_eq];split
 ·constructor<;>intro<;>omega
 ·split
  ·constructor<;>intro<;>omega
  ·constructor<;>intro<;>omega
theorem Uy (c:Int):Rf.digit c=decide (0<=Pg.digitValue c):=by
 unfold Rf.digit Pg.digitValue;rw[Bool.eq_iff_iff];simp only[Bool.and_eq_true,decide_eq_true_eq];split<;>(constructor<;>intro<;>omega)
theorem Qk (c:Int) (h:Rf.hex c=true):Rf.number c=Pg.hexValue c:=by
 unfold Rf.hex Rf.digit at h;simp only[Bool.or_eq_true,Bool.and_eq_true,decide_eq_true_eq]at h;unfold Rf.number Rf.digit Pg.hexValue Pg.digitValue;by_cases h1:97<=c/\c<=102
 ·rw[if_pos h1,if_neg (by simp;omega)]
 ·rw[if_neg h1,if_pos (by simp;omega),if_pos (by omega)]
theorem Qi (c:Int):Rf.has Rf.marks c=Pg.isMark c:=by
 simp only[Rf.marks,Rf.has,Pg.isMark,Bool.or_false];rw[Bool.eq_iff_iff];simp only[Bool.or_eq_true,beq_iff_eq];constructor<;>intro h<;>(simp at h ⊢;omega)
theorem Pz (c:Int) (h0:0<=c) (h92:c≠92):(!Rf.has Rf.notInner c)=Pg.isInner c:=by
 simp only[Rf.notInner,Rf.has,Pg.isInner,Bool.or_false];congr 1;rw[Bool.eq_iff_iff];simp only[Bool.or_eq_true,beq_iff_eq];constructor<;>intro h<;>(simp at h ⊢;omega)
theorem Vp (m b o:Int) (i:Nat) (h:1<m):Rf.formFrom m b o i []=i:=by simp[Rf.formFrom,h]
theorem XA {m b o:Int} (x:Rf.RS) (h:Rf.read m b o c.toNat=x) (hx:x.ok=true):Rf.formFrom m b o i (c::r)=Rf.formFrom x.m x.bk x.o (i+1) r:=by
 simp[Rf.formFrom,h,hx]
theorem VF {m b o:Int} (x:Rf.RS) (h:Rf.read m b o c.toNat=x) (hx:x.ok=false):Rf.formFrom m b o i (c::r)=i:=by
 simp[Rf.formFrom,h,hx]
theorem TP (b o:Int):Rf.read 2 b o 120=⟨true,3,b,o⟩:=by simp[Rf.read]
theorem Hu (b o c:Int) (h:c≠120) (hk:(c==110 || c==116 || Rf.has Rf.marks c)=true):Rf.read 2 b o c=⟨true,b,b,o⟩:=by
 simp only[Rf.read,if_neg h,hk];rfl
theorem IY (b o c:Int) (h:c≠120) (hk:(c==110 || c==116 || Rf.has Rf.marks c)=false):Rf.read 2 b o c=⟨false,2,b,o⟩:=by
 simp only[Rf.read,if_neg h,hk];rfl
theorem PL (b o c:Int):Rf.read 3 b o c=⟨Rf.hex c,if Rf.hex c then 4 else 3,b,o⟩:=by simp[Rf.read,Rf.to]
theorem Kn (b o c:Int):Rf.read 4 b o c=⟨Rf.hex c,if Rf.hex c then b else 4,b,o⟩:=by simp[Rf.read,Rf.to]
def YH (m b o:Int):List UInt8->Option (Int × Int)
 |[]=>some (m,b)
 |c::r=>if (Rf.read m b o c.toNat).ok=true/\(Rf.read m b o c.toNat).o=o then YH (Rf.read m b o c.toNat).m (Rf.read m b o c.toNat).bk o r else none
theorem YE {m b o:Int} (x:Rf.RS) (h:Rf.read m b o c.toNat=x) (hx:x.ok=true) (ho:x.o=o):YH m b o (c::r)=YH x.m x.bk o r:=by
 rw[YH,h,if_pos ⟨hx,ho⟩]
theorem Yc {o:Int}:∀(w:List UInt8) (m b m' b':Int) (i:Nat) (r:List UInt8),YH m b o w=some (m',b')->Rf.formFrom m b o i (w++r)=Rf.formFrom m' b' o (i+w.length) r
 |[],m,b,m',b',i,r,h=>by simp only[YH,Option.some.injEq,Prod.mk.injEq]at h;rw[h.1,h.2];rfl
 |c::w,m,b,m',b',i,r,h=>by
  rw[YH]at h;split at h
  ·rename_i hx;rw[List.cons_append,XA _ rfl hx.1,hx.2,Yc w _ _ _ _ _ _ h];congr 1;simp;omega
  ·cases h
theorem XX {o:Int} (ho:o<=6):∀(w:List UInt8) (m b m' b':Int) (i:Nat) (r:List UInt8),YH m b o w=some (m',b')->Rf.deepFrom m b o i (w++r)=Rf.deepFrom m' b' o (i+w.length) r
 |[],m,b,m',b',i,r,h=>by simp only[YH,Option.some.injEq,Prod.mk.injEq]at h;rw[h.1,h.2];rfl
 |c::w,m,b,m',b',i,r,h=>by
  rw[YH]at h;split at h
  ·rename_i hx;rw[List.cons_append,Rf.deepFrom,hx.2,if_neg (by omega),XX ho w _ _ _ _ _ _ h];congr 1;simp;omega
  ·cases h
theorem Vx {o:Int}:∀(w:List UInt8) (m b m' b':Int) (r:List UInt8),YH m b o w=some (m',b')->YH m b o (w++r)=YH m' b' o r
 |[],m,b,m',b',r,h=>by simp only[YH,Option.some.injEq,Prod.mk.injEq]at h;rw[h.1,h.2];rfl
 |c::w,m,b,m',b',r,h=>by
  rw[YH]at h;split at h
  ·rename_i hx;rw[List.cons_append,YH,if_pos hx];exact Vx w _ _ _ _ _ h
  ·cases h
theorem Uz (s:ByteArray) (k:Nat) (t:List UInt8) (h:s.data.toList.drop k=92::t):
  (∃(n:Nat) (v:Int),Pg.readEscape (Y5 s) k=⟨v,((k+(n+1):Nat):Int),true⟩/\Rf.one (92::t)=some (v,n+1)/\n<=t.length/\∀b o,YH 2 b o (t.take n)=some (b,b)) \/
  (∃n:Nat,(Pg.readEscape (Y5 s) k).ok=false/\(Pg.readEscape (Y5 s) k).n=((k+n:Nat):Int)/\∀b o,Rf.formFrom 2 b o (k+1) t=((k+n:Nat):Int)):=by
 have e1:=NI h;have e2:=Ic h;have e3:=Id h;have a21:(k:Int)+2+1=(k:Int)+3:=by omega
 rcases t with _|⟨d,t⟩
 ·right;refine⟨1,?_,?_,fun b o=>?_⟩
  ·simp[Pg.readEscape,e1,at_,Pg.isMark]
  ·simp[Pg.readEscape,e1,at_,Pg.isMark]
  ·rw[Vp _ _ _ _ (by omega)]
 have e1':Y5 s ((k:Int)+1)=d.toNat:=by rw[e1];rfl
 by_cases h120:d=120
 ·subst h120;have hE:Pg.readEscape (Y5 s) k=Pg.readHex (Y5 s) ((k:Int)+2):=by
   unfold Pg.readEscape;rw[e1'];rfl
  rcases t with _|⟨x,t⟩
  ·right;have hx:Pg.hexValue (Y5 s ((k:Int)+2))<0:=by rw[e2];simp[at_,Pg.hexValue,Pg.digitValue]
   refine⟨2,?_,?_,fun b o=>?_⟩
   ·rw[hE,Pg.readHex,if_pos hx]
   ·rw[hE,Pg.readHex,if_pos hx];simp
   ·rw[XA _ (TP b o) rfl,Vp _ _ _ _ (by simp)]
  have e2':Y5 s ((k:Int)+2)=x.toNat:=by rw[e2];rfl
  by_cases hx:Pg.hexValue x.toNat<0
  ·right;have hx1:Rf.hex x.toNat=false:=by rw[Sd];simp;omega
   refine⟨2,?_,?_,fun b o=>?_⟩
   ·rw[hE,Pg.readHex,e2',if_pos hx]
   ·rw[hE,Pg.readHex,e2',if_pos hx];simp
   ·rw[XA _ (TP b o) rfl,VF _ (PL b o _) hx1]
  have hx1:Rf.hex x.toNat=true:=by rw[Sd];simp;omega
  rcases t with _|⟨y,t⟩
  ·right;have hy:Pg.hexValue (Y5 s ((k:Int)+3))<0:=by rw[e3];simp[at_,Pg.hexValue,Pg.digitValue]
   refine⟨3,?_,?_,fun b o=>?_⟩
   ·rw[hE,Pg.readHex,e2',if_neg hx,a21,if_pos hy]
   ·rw[hE,Pg.readHex,e2',if_neg hx,a21,if_pos hy];simp
   ·rw[XA _ (TP b o) rfl,XA _ (PL b o _) hx1];simp only[hx1,if_true];rw[Vp _ _ _ _ (by simp)]
  have e3':Y5 s ((k:Int)+3)=y.toNat:=by rw[e3];rfl
  by_cases hy:Pg.hexValue y.toNat<0
  ·right;have hy1:Rf.hex y.toNat=false:=by rw[Sd];simp;omega
   refine⟨3,?_,?_,fun b o=>?_⟩
   ·rw[hE,Pg.readHex,e2',if_neg hx,a21,e3',if_pos hy]
   ·rw[hE,Pg.readHex,e2',if_neg hx,a21,e3',if_pos hy];simp
   ·rw[XA _ (TP b o) rfl,XA _ (PL b o _) hx1];simp only[hx1,if_true];rw[VF _ (Kn b o _) hy1]
  ·left;have hy1:Rf.hex y.toNat=true:=by rw[Sd];simp;omega
   refine⟨3,Pg.hexValue x.toNat*16+Pg.hexValue y.toNat,?_,?_,by simp,fun b o=>?_⟩
   ·rw[hE,Pg.readHex,e2',if_neg hx,a21,e3',if_neg hy];rw[show(k:Int)+2+2=((k+(3+1):Nat):Int) by omega]
   ·simp[Rf.one,hx1,hy1,Qk _ hx1,Qk _ hy1]
   ·show YH 2 b o [120,x,y]=_;have hq:Rf.read 2 b o ((120:UInt8).toNat:Int)=⟨true,3,b,o⟩:=TP b o;rw[YE _ hq rfl rfl,YE _ (PL b o _) hx1 rfl];simp only[hx1,if_true];rw[YE _ (Kn b o _) hy1 rfl];simp only[hy1,if_true];rfl
 ·have h120':(d.toNat:Int)≠120:=by
   intro e;exact h120 (UInt8.toNat_inj.1 (by simpa using (by omega:d.toNat=120)))
  cases hk:((d.toNat:Int)==110 || (d.toNat:Int)==116 || Rf.has Rf.marks d.toNat)
  ·right;have hk':=hk;rw[Qi]at hk';simp only[Bool.or_eq_false_iff,beq_eq_false_iff_ne]at hk';refine⟨1,?_,?_,fun b o=>?_⟩
   ·unfold Pg.readEscape;rw[e1',if_neg hk'.1.1,if_neg hk'.1.2,if_neg h120',hk'.2];rfl
   ·unfold Pg.readEscape;rw[e1',if_neg hk'.1.1,if_neg hk'.1.2,if_neg h120',hk'.2];simp
   ·rw[VF _ (IY b o _ h120' hk) rfl]
  ·left;have hst:∀b o,YH 2 b o ((d::t).take 1)=some (b,b):=fun b o=>by
    show YH 2 b o [d]=_;rw[YE _ (Hu b o _ h120' hk) rfl rfl];rfl
   by_cases h110:d=110
   ·subst h110;exact⟨1,10,by unfold Pg.readEscape;rw[e1',if_pos (by decide),show(k:Int)+2=((k+(1+1):Nat):Int) by omega],by simp[Rf.one],by simp,hst⟩
   have h110':(d.toNat:Int)≠110:=by
    intro e;exact h110 (UInt8.toNat_inj.1 (by simpa using (by omega:d.toNat=110)))
   by_cases h116:d=116
   ·subst h116;exact⟨1,9,by unfold Pg.readEscape;rw[e1',if_neg (by decide),if_pos (by decide),show(k:Int)+2=((k+(1+1):Nat):Int) by omega],by simp[Rf.one],by simp,hst⟩
   have h116':(d.toNat:Int)≠116:=by
    intro e;exact h116 (UInt8.toNat_inj.1 (by simpa using (by omega:d.toNat=116)))
   have hm:Pg.isMark d.toNat=true:=by
    rw[<-Qi];simpa[h110',h116']using hk
   exact⟨1,d.toNat,by unfold Pg.readEscape;rw[e1',if_neg h110',if_neg h116',if_neg h120',hm,if_pos rfl,show(k:Int)+2=((k+(1+1):Nat):Int) by omega],by simp[Rf.one,h110,h116,h120],by simp,hst⟩
theorem Ql (s:ByteArray) (k:Nat):
  (∃(n:Nat) (v:Int),Pg.readOne (Y5 s) k=⟨v,((k+(n+1):Nat):Int),true⟩/\Rf.one (s.data.toList.drop k)=some (v,n+1)/\n+1<=(s.data.toList.drop k).length /\
   (∀c r,s.data.toList.drop k=c::r->c≠93/\c≠45/\c≠94) /\
   ∀m m' b o,(∀c r,s.data.toList.drop k=c::r->Rf.read m b o c.toNat=Rf.inner m b o c.toNat m')->∃b',YH m b o ((s.data.toList.drop k).take (n+1))=some (m',b')) \/
  (∃n:Nat,(Pg.readOne (Y5 s) k).ok=false/\(Pg.readOne (Y5 s) k).n=((k+n:Nat):Int) /\
   ∀m m' b o,1<m->(∀c r,s.data.toList.drop k=c::r->Rf.read m b o c.toNat=Rf.inner m b o c.toNat m')->Rf.formFrom m b o k (s.data.toList.drop k)=((k+n:Nat):Int)):=by
 rcases hd:s.data.toList.drop k with _|⟨c,r⟩
 ·have e0:Y5 s (k:Int)=-1:=US hd;right;refine⟨0,?_,?_,fun m m' b o hm _=>?_⟩
  ·simp[Pg.readOne,e0,Pg.isInner]
  ·simp[Pg.readOne,e0,Pg.isInner]
  ·rw[Vp _ _ _ _ hm];simp
 have e0:Y5 s (k:Int)=c.toNat:=by rw[US hd];rfl
 by_cases h92:c=92
 ·subst h92;have hR:Pg.readOne (Y5 s) k=Pg.readEscape (Y5 s) k:=by rw[Pg.readOne,if_pos (by rw[e0];rfl)]
  rcases Uz s k r hd with ⟨n,v,h1,h2,h3,h4⟩|⟨n,h1,h2,h3⟩
  ·left;refine⟨n,v,by rw[hR,h1],h2,by simp;omega,fun c' r' he=>by cases he;decide,fun m m' b o hi=>⟨m',?_⟩⟩;have hx:Rf.read m b o ((92:UInt8).toNat:Int)=⟨true,2,m',o⟩:=by rw[hi 92 r rfl];rfl
   rw[List.take_succ_cons,YE _ hx rfl rfl];exact h4 m' o
  ·right;refine⟨n,by rw[hR,h1],by rw[hR,h2],fun m m' b o hm hi=>?_⟩;have hx:Rf.read m b o ((92:UInt8).toNat:Int)=⟨true,2,m',o⟩:=by rw[hi 92 r rfl];rfl
   rw[XA _ hx rfl];exact h3 m' o
 ·have h92':(c.toNat:Int)≠92:=by
   intro e;exact h92 (UInt8.toNat_inj.1 (by simpa using (by omega:c.toNat=92)))
  have hni:=Pz c.toNat (by omega) h92';have hx:∀m m' b o,(∀c' r',c::r=c'::r'->Rf.read m b o c'.toNat=Rf.inner m b o c'.toNat m')->Rf.read m b o c.toNat=Rf.to m b o (Pg.isInner c.toNat) m':=fun m m' b o hi=>by
   rw[hi c r rfl,Rf.inner,if_neg h92',hni]
  cases hin:Pg.isInner c.toNat
  ·right;refine⟨0,?_,?_,fun m m' b o hm hi=>?_⟩
   ·rw[Pg.readOne,e0,if_neg h92',hin];rfl
   ·rw[Pg.readOne,e0,if_neg h92',hin];simp
   ·rw[VF _ (hx m m' b o hi) (by rw[hin];rfl)];simp
  ·left;refine⟨0,c.toNat,?_,by simp[Rf.one,h92],by simp,?_,fun m m' b o hi=>⟨b,?_⟩⟩
   ·rw[Pg.readOne,e0,if_neg h92',hin,if_pos rfl,show(k:Int)+1=((k+(0+1):Nat):Int) by omega]
   ·intro c' r' he;cases he;refine⟨?_,?_,?_⟩<;>(intro e;subst e;simp[Pg.isInner]at hin)
   ·show YH m b o [c]=_;rw[YE _ (hx m m' b o hi) (by rw[hin];rfl) rfl,hin];rfl
theorem Qf (u i:Nat) (fa:Int) (f:Nat->Bool):Rf.items u [] i fa f=none:=by cases u<;>rfl
theorem YT (l:List UInt8) (k n:Nat):(l.drop k).drop n=l.drop (k+n):=List.drop_drop
theorem MW (s:ByteArray) (k:Nat) (m b o:Int) (hm:1<m) (hi:∀c r,s.data.toList.drop k=c::r->Rf.read m b o c.toNat=Rf.inner m b o c.toNat 11):
  (∃(n:Nat) (lo hi:Int),1<=n/\k+n<=s.size/\Pg.readItem (Y5 s) k=⟨lo,hi,((k+n:Nat):Int),true⟩ /\
   (∀u fa f,Rf.items (u+1) (s.data.toList.drop k) k fa f=Rf.items u (s.data.toList.drop (k+n)) (k+n) (if hi<lo/\fa<0 then (k:Int) else fa) (Pg.withF f lo hi)) /\
   ∃m2 b2,YH m b o ((s.data.toList.drop k).take n)=some (m2,b2)/\((m2=11/\∀c r,s.data.toList.drop (k+n)=c::r->c≠45)\/m2=13)) \/
  (∃n:Nat,(Pg.readItem (Y5 s) k).ok=false/\(Pg.readItem (Y5 s) k).n=((k+n:Nat):Int)/\Rf.formFrom m b o k (s.data.toList.drop k)=((k+n:Nat):Int)):=by
 rcases Ql s k with ⟨n,v,h1,h2,h3,h4,h5⟩|⟨n,h1,h2,h3⟩
 ·obtain⟨b1,hst⟩:=h5 m 11 b o hi;have hkn:k+(n+1)<=s.size:=by
   have:(s.data.toList.drop k).length=s.size-k:=by simp
   omega
  obtain⟨c,r,hcr⟩:∃c r,s.data.toList.drop k=c::r:=by
   rcases hd:s.data.toList.drop k with _|⟨c,r⟩
   ·rw[hd]at h3;simp at h3
   ·exact⟨c,r,rfl⟩
  obtain⟨hc93,_,_⟩:=h4 c r hcr;have hsplit:s.data.toList.drop k=(s.data.toList.drop k).take (n+1)++s.data.toList.drop (k+(n+1)):=by
   rw[<-YT,List.take_append_drop]
  have hlen:((s.data.toList.drop k).take (n+1)).length=n+1:=by rw[List.length_take];omega
  have hone:(Pg.readOne (Y5 s) k).ok=true:=by rw[h1]
  have hn:(Pg.readOne (Y5 s) k).n=((k+(n+1):Nat):Int):=by rw[h1]
  have hv:(Pg.readOne (Y5 s) k).v=v:=by rw[h1]
  by_cases h45:∃r2,s.data.toList.drop (k+(n+1))=45::r2
  ·obtain⟨r2,hr2⟩:=h45;have hb45:Y5 s ((k+(n+1):Nat):Int)=45:=by rw[US hr2];rfl
   have hd1:s.data.toList.drop (k+(n+1)+1)=r2:=by rw[<-YT,hr2];rfl
   have h12:Rf.read 11 b1 o ((45:UInt8).toNat:Int)=⟨true,12,b1,o⟩:=by rfl
   have hi2:∀c r,s.data.toList.drop (k+(n+1)+1)=c::r->Rf.read 12 b1 o c.toNat=Rf.inner 12 b1 o c.toNat 13:=by
    intro c r _;simp[Rf.read,Rf.rest]
   have hit:Pg.readItem (Y5 s) k=⟨v,(Pg.readOne (Y5 s) (((k+(n+1)+1:Nat)):Int)).v,(Pg.readOne (Y5 s) (((k+(n+1)+1:Nat)):Int)).n,(Pg.readOne (Y5 s) (((k+(n+1)+1:Nat)):Int)).ok⟩:=by
    rw[Pg.readItem,if_pos hone,hn,if_pos hb45,hv];rw[show(((k+(n+1):Nat):Int)+1)=((k+(n+1)+1:Nat):Int) by omega]
   rcases Ql s (k+(n+1)+1)with ⟨n2,v2,g1,g2,g3,g4,g5⟩|⟨n2,g1,g2,g3⟩
   ·left;obtain⟨b2,hst2⟩:=g5 12 13 b1 o hi2;have hkn2:k+(n+1)+1+(n2+1)<=s.size:=by
     have:(s.data.toList.drop (k+(n+1)+1)).length=s.size-(k+(n+1)+1):=by simp
     omega
    refine⟨n+1+1+(n2+1),v,v2,by omega,by omega,?_,fun u fa f=>?_,13,b2,?_,Or.inr rfl⟩
    ·rw[hit,g1,show k+(n+1)+1+(n2+1)=k+(n+1+1+(n2+1)) by omega]
    ·rw[hcr,Rf.items];simp only[if_neg hc93];rw[<-hcr,h2];simp only[YT,hr2];rw[if_pos trivial,<-hd1,g2];simp only[YT];rw[show k+(n+1)+1+(n2+1)=k+(n+1+1+(n2+1)) by omega];rfl
    ·have e1:(s.data.toList.drop k).take (n+1+1+(n2+1))=(s.data.toList.drop k).take (n+1)++(45::(s.data.toList.drop (k+(n+1)+1)).take (n2+1)):=by
      rw[show n+1+1+(n2+1)=(n+1)+(1+(n2+1)) by omega,List.take_add,YT,hr2,hd1,show 1+(n2+1)=(n2+1)+1 by omega,List.take_succ_cons]
     rw[e1,Vx _ _ _ _ _ _ hst,YE _ h12 rfl rfl];exact hst2
   ·right;refine⟨n+1+1+n2,by rw[hit];exact g1,by rw[hit];simp only[g2];omega,?_⟩;rw[hsplit,Yc _ _ _ _ _ _ _ hst,hlen,hr2,XA _ h12 rfl,<-hd1,g3 12 13 b1 o (by omega) hi2];omega
  ·left;have hb45:Y5 s ((k+(n+1):Nat):Int)≠45:=by
    rcases hd:s.data.toList.drop (k+(n+1))with _|⟨c2,r2⟩
    ·rw[US hd];simp[at_]
    ·rw[US hd];simp only[at_,List.getElem?_cons_zero];intro e;apply h45;have:c2=45:=UInt8.toNat_inj.1 (by simpa using (by omega:c2.toNat=45));exact⟨r2,by rw[hd,this]⟩
   refine⟨n+1,v,v,by omega,hkn,?_,fun u fa f=>?_,11,b1,hst,Or.inl ⟨rfl,?_⟩⟩
   ·rw[Pg.readItem,if_pos hone,hn,if_neg hb45,hv]
   ·rw[hcr,Rf.items];simp only[if_neg hc93];rw[<-hcr,h2];simp only[YT];rcases hd:s.data.toList.drop (k+(n+1))with _|⟨c2,r2⟩
    ·rw[Qf]
    ·simp only;rw[if_neg (fun e=>h45 ⟨r2,by rw[hd,e]⟩),if_neg (by omega)];rfl
   ·intro c2 r2 he e;exact h45 ⟨r2,by rw[he,e]⟩
 ·right;refine⟨n,?_,?_,h3 m 11 b o hm hi⟩
  ·rw[Pg.readItem,h1];rfl
  ·rw[Pg.readItem,h1];exact h2
theorem XW {s:ByteArray} (h:s.data.toList.drop k=c::r):k<s.size:=by
 rcases Nat.lt_or_ge k s.size with h'|h'
 ·exact h'
 ·rw[List.drop_eq_nil_of_le (by simpa using h')]at h;cases h
theorem Uj (l:List UInt8) (k n j:Nat):(l.drop k).take (n+j)=(l.drop k).take n++(l.drop (k+n)).take j:=by
 rw[List.take_add,List.drop_drop]
theorem Rd (s:ByteArray) (first:Nat) (o:Int):∀(u k:Nat) (fa:Int) (f:Nat->Bool) (m b:Int),s.size<u+k->k<=s.size->-1<=fa ->
  ((k=first/\(m=10\/(m=9/\∀c r,s.data.toList.drop k=c::r->c≠94)))\/(first<k/\((m=11/\∀c r,s.data.toList.drop k=c::r->c≠45)\/m=13))) ->
  (∃(j:Nat) (F:Nat->Bool) (FA:Int),k<=j/\j<s.size/\Pg.setLoop (Y5 s) s.size first u k fa f=⟨(j:Int)+1,true,F,FA⟩/\-1<=FA/\(∀v,s.size<v+k->Rf.items v (s.data.toList.drop k) k fa f=some (j,FA,F))/\∃b',YH m b o ((s.data.toList.drop k).take (j+1-k))=some (1,b')) \/
  ((Pg.setLoop (Y5 s) s.size first u k fa f).ok=false/\Rf.formFrom m b o k (s.data.toList.drop k)=(Pg.setLoop (Y5 s) s.size first u k fa f).n):=by
 intro u
 induction u with
 |zero=>intro k fa f m b h1 h2;omega
 |succ u ih=>
  intro k fa f m b hu hk hfa hcase;have hm1:1<m:=by rcases hcase with ⟨_,h|h⟩|⟨_,h|h⟩<;>omega
  rcases hd:s.data.toList.drop k with _|⟨c,r⟩
  ·right;have hks:k=s.size:=by
    have:s.size<=k:=by simpa using hd
    omega
   have hge:¬(k:Int)<(s.size:Int):=by omega
   rw[Pg.setLoop,if_neg hge];refine⟨rfl,?_⟩;rw[Vp _ _ _ _ hm1,hks]
  have hlt:=XW hd;have hlti:(k:Int)<(s.size:Int):=by omega
  have hbk:Y5 s (k:Int)=c.toNat:=by rw[US hd];rfl
  by_cases h93:c=93/\first<k
  ·left;obtain⟨rfl,hf⟩:=h93;have hm:m=11\/m=13:=by
    rcases hcase with ⟨h,_⟩|⟨_,h|h⟩
    ·omega
    ·exact Or.inl h.1
    ·exact Or.inr h
   refine⟨k,f,fa,Nat.le_refl _,hlt,?_,hfa,fun v hv=>?_,b,?_⟩
   ·rw[Pg.setLoop,if_pos hlti,if_pos ⟨by rw[hbk];rfl,by omega⟩]
   ·rcases v with _|v
    ·omega
    ·rfl
   ·rw[show k+1-k=1 by omega];show YH m b o [93]=_;have hx:Rf.read m b o ((93:UInt8).toNat:Int)=⟨true,1,b,o⟩:=by
     rcases hm with rfl|rfl<;>rfl
    rw[YE _ hx rfl rfl];rfl
  ·have hi:∀c' r',s.data.toList.drop k=c'::r'->Rf.read m b o c'.toNat=Rf.inner m b o c'.toNat 11:=by
    intro c' r' he;rw[hd]at he;cases he;have ne:∀d:UInt8,c≠d->(c.toNat:Int)≠d.toNat:=fun d h e=>h (UInt8.toNat_inj.1 (by omega))
    rcases hcase with ⟨_,h|⟨h,h2⟩⟩|⟨hf,⟨h,h2⟩|h⟩
    ·subst h;simp[Rf.read,Rf.rest]
    ·subst h;have:=ne 94 (h2 c r hd);have h':(c.toNat:Int)≠94:=this;simp only[Rf.read,Rf.rest];rw[if_neg h'];simp
    ·subst h;have h1:(c.toNat:Int)≠45:=ne 45 (h2 c r hd);have h3:(c.toNat:Int)≠93:=ne 93 (fun e=>h93 ⟨e,hf⟩);simp only[Rf.read,Rf.rest];rw[if_neg h1,if_neg h3];simp
    ·subst h;have h3:(c.toNat:Int)≠93:=ne 93 (fun e=>h93 ⟨e,hf⟩);simp only[Rf.read,Rf.rest];rw[if_neg h3];simp
   have hno:¬(Y5 s (k:Int)=93/\(first:Int)<k):=by
    rintro ⟨h1,h2⟩;rw[hbk]at h1;exact h93 ⟨UInt8.toNat_inj.1 (by simpa using (by omega:c.toNat=93)),by omega⟩
   have hL:Pg.setLoop (Y5 s) s.size first (u+1) k fa f=if (Pg.readItem (Y5 s) k).ok then Pg.setLoop (Y5 s) s.size first u (Pg.readItem (Y5 s) k).n (if (Pg.readItem (Y5 s) k).hi<(Pg.readItem (Y5 s) k).lo/\fa=-1 then (k:Int) else fa) (Pg.withF f (Pg.readItem (Y5 s) k).lo (Pg.readItem (Y5 s) k).hi) else ⟨(Pg.readItem (Y5 s) k).n,false,f,fa⟩:=by
    rw[Pg.setLoop,if_pos hlti,if_neg hno]
   rcases MW s k m b o hm1 hi with ⟨n,lo,hi',hn1,hn2,hit,hitems,m2,b2,hst,hm2⟩|⟨n,h1,h2,h3⟩
   ·have hL2:Pg.setLoop (Y5 s) s.size first (u+1) k fa f=Pg.setLoop (Y5 s) s.size first u ((k+n:Nat):Int) (if hi'<lo/\fa<0 then (k:Int) else fa) (Pg.withF f lo hi'):=by
     rw[hL,hit];simp only[if_true];have:(fa=-1)<->(fa<0):=by omega
     simp only[this]
    have hfa':-1<=(if hi'<lo/\fa<0 then (k:Int) else fa):=by split<;>omega
    have hcase2:((k+n=first/\(m2=10\/(m2=9/\∀c r,s.data.toList.drop (k+n)=c::r->c≠94)))\/(first<k+n/\((m2=11/\∀c r,s.data.toList.drop (k+n)=c::r->c≠45)\/m2=13))):=by
     right;refine⟨?_,hm2⟩;rcases hcase with ⟨h,_⟩|⟨h,_⟩<;>omega
    rcases ih (k+n) _ (Pg.withF f lo hi') m2 b2 (by omega) hn2 hfa' hcase2 with ⟨j,F,FA,g1,g2,g3,g4,g5,b',g6⟩|⟨g1,g2⟩
    ·left;refine⟨j,F,FA,by omega,g2,by rw[hL2,g3],g4,fun v hv=>?_,b',?_⟩
     ·rcases v with _|v
      ·omega
      ·rw[<-hd,hitems];exact g5 v (by omega)
     ·rw[<-hd,show j+1-k=n+(j+1-(k+n)) by omega,Uj,Vx _ _ _ _ _ _ hst];exact g6
    ·right;refine⟨by rw[hL2];exact g1,?_⟩;have hsp:s.data.toList.drop k=(s.data.toList.drop k).take n++s.data.toList.drop (k+n):=by rw[<-YT,List.take_append_drop]
     have hlen:((s.data.toList.drop k).take n).length=n:=by rw[List.length_take];simp;omega
     rw[hL2,<-g2,<-hd];rw[hsp,Yc _ _ _ _ _ _ _ hst,hlen]
   ·right;rw[hL,h1];refine⟨rfl,?_⟩;rw[<-hd];simp only[h2];exact h3
theorem Tm (s:ByteArray) (i:Nat) (t:List UInt8) (m b o:Int) (hm:m=0\/m=1) (h:s.data.toList.drop i=91::t):
  (∃(n:Nat) (F:Nat->Bool) (FA:Int),i+2<=n/\n<=s.size/\Pg.readSet (Y5 s) s.size i=⟨(n:Int),true,F,FA⟩/\Rf.set t i=some (n,FA,F)/\-1<=FA/\∃b',YH m b o ((s.data.toList.drop i).take (n-i))=some (1,b')) \/
  ((Pg.readSet (Y5 s) s.size i).ok=false/\Rf.formFrom m b o i (s.data.toList.drop i)=(Pg.readSet (Y5 s) s.size i).n):=by
 have hlt:=XW h;have h9:Rf.read m b o ((91:UInt8).toNat:Int)=⟨true,9,b,o⟩:=by rcases hm with rfl|rfl<;>rfl
 have hd1:s.data.toList.drop (i+1)=t:=by rw[<-YT,h];rfl
 by_cases h94:∃r,t=94::r
 ·obtain⟨r,rfl⟩:=h94;have hlt1:=XW hd1;have hd2:s.data.toList.drop (i+2)=r:=by rw[show i+2=i+1+1 by omega,<-YT,hd1];rfl
  have hb:Y5 s ((i:Int)+1)=94:=by rw[NI h];rfl
  have h10:Rf.read 9 b o ((94:UInt8).toNat:Int)=⟨true,10,b,o⟩:=rfl;have hrl:r.length=s.size-(i+2):=by rw[<-hd2];simp
  have hR:Pg.readSet (Y5 s) s.size i=⟨(Pg.setLoop (Y5 s) s.size ((i+2:Nat):Int) (s.size+1) ((i+2:Nat):Int) (-1) (fun _=>false)).n,(Pg.setLoop (Y5 s) s.size ((i+2:Nat):Int) (s.size+1) ((i+2:Nat):Int) (-1) (fun _=>false)).ok,fun k=>!(Pg.setLoop (Y5 s) s.size ((i+2:Nat):Int) (s.size+1) ((i+2:Nat):Int) (-1) (fun _=>false)).f k,(Pg.setLoop (Y5 s) s.size ((i+2:Nat):Int) (s.size+1) ((i+2:Nat):Int) (-1) (fun _=>false)).fa⟩:=by
   rw[Pg.readSet,if_pos hb];rfl
  rcases Rd s (i+2) o (s.size+1) (i+2) (-1) (fun _=>false) 10 b (by omega) (by omega) (by omega) (Or.inl ⟨rfl,Or.inl rfl⟩)with ⟨j,F,FA,g1,g2,g3,g4,g5,b',g6⟩|⟨g1,g2⟩
  ·left;refine⟨j+1,fun k=>!F k,FA,by omega,by omega,by rw[hR,g3];rfl,?_,g4,b',?_⟩
   ·have:=g5 (r.length+1) (by omega);rw[hd2]at this;simp only[Rf.set,if_true,this,Option.map_some];simp
   ·rw[show j+1-i=2+(j+1-(i+2)) by omega,Uj,h];show YH m b o (91::94::((s.data.toList.drop (i+2)).take (j+1-(i+2))))=_;rw[YE _ h9 rfl rfl,YE _ h10 rfl rfl];exact g6
  ·right;refine⟨by rw[hR];exact g1,?_⟩;rw[h,XA _ h9 rfl,XA _ h10 rfl,hR];simp only[<-g2,hd2]
 ·have hb:Y5 s ((i:Int)+1)≠94:=by
   rw[NI h];rcases t with _|⟨c,r⟩
   ·simp[at_]
   ·simp only[at_,List.getElem?_cons_succ,List.getElem?_cons_zero];intro e;exact h94 ⟨r,by rw[show c=94 from UInt8.toNat_inj.1 (by simpa using (by omega:c.toNat=94))]⟩
  have hR:Pg.readSet (Y5 s) s.size i=Pg.setLoop (Y5 s) s.size ((i+1:Nat):Int) (s.size+1) ((i+1:Nat):Int) (-1) (fun _=>false):=by
   rw[Pg.readSet,if_neg hb];rfl
  have hne:∀c r,s.data.toList.drop (i+1)=c::r->c≠94:=by
   intro c r he e;exact h94 ⟨r,by rw[<-hd1,he,e]⟩
  rcases Rd s (i+1) o (s.size+1) (i+1) (-1) (fun _=>false) 9 b (by omega) (by omega) (by omega) (Or.inl ⟨rfl,Or.inr ⟨rfl,hne⟩⟩)with ⟨j,F,FA,g1,g2,g3,g4,g5,b',g6⟩|⟨g1,g2⟩
  ·left;refine⟨j+1,F,FA,by omega,by omega,by rw[hR,g3];rfl,?_,g4,b',?_⟩
   ·rcases t with _|⟨c,r⟩
    ·rw[hd1]at g5;have:=g5 (s.size+1) (by omega);rw[Qf]at this;cases this
    ·have hrl:(c::r).length=s.size-(i+1):=by rw[<-hd1];simp
     have:=g5 (r.length+2) (by simp at hrl;omega);rw[hd1]at this;have hc94:=hne c r hd1;simp only[Rf.set,if_neg hc94,this,Option.map_some];simp
   ·rw[show j+1-i=1+(j+1-(i+1)) by omega,Uj,h];show YH m b o (91::((s.data.toList.drop (i+1)).take (j+1-(i+1))))=_;rw[YE _ h9 rfl rfl];exact g6
  ·right;refine⟨by rw[hR];exact g1,?_⟩;rw[h,XA _ h9 rfl,hR,<-g2,hd1]
def XB (kd:Int):Int:=if Pg.endsPiece kd then 1 else 0
def P9 (s:ByteArray) (k:Nat) (m b op kd:Int):Prop:=
 ∃(n:Nat) (F:Nat->Bool) (mo fa b':Int),1<=n/\k+n<=s.size/\Pg.readPart (Y5 s) s.size k kd=⟨((k+n:Nat):Int),true,F,mo,fa⟩ /\
  Rf.formFrom m b op k (s.data.toList.drop k)=Rf.formFrom (XB kd) b' (Pg.opens kd op) (k+n) (s.data.toList.drop (k+n)) /\
  (op<=6->Rf.deepFrom m b op k (s.data.toList.drop k)=if 6<Pg.opens kd op then (k:Int) else Rf.deepFrom (XB kd) b' (Pg.opens kd op) (k+n) (s.data.toList.drop (k+n))) /\
  -1<=fa /\
  (∃c,∀v,Rf.valueFrom s.data.toList (v+c) k=if fa=-1 then Rf.valueFrom s.data.toList v (k+n) else some fa) /\
  (∃c,∀v,Rf.emptyFrom s.data.toList (v+c) k=if kd=1/\Rf.cntTo F 256=0 then some (k:Int) else Rf.emptyFrom s.data.toList v (k+n))
theorem Xj {s:ByteArray}{m b op:Int} (hn:k+n<=s.size) (hst:YH m b op ((s.data.toList.drop k).take n)=some (m',b')):
  Rf.formFrom m b op k (s.data.toList.drop k)=Rf.formFrom m' b' op (k+n) (s.data.toList.drop (k+n))/\(op<=6->Rf.deepFrom m b op k (s.data.toList.drop k)=if 6<op then (k:Int) else Rf.deepFrom m' b' op (k+n) (s.data.toList.drop (k+n))):=by
 have hsp:s.data.toList.drop k=(s.data.toList.drop k).take n++s.data.toList.drop (k+n):=by rw[<-YT,List.take_append_drop]
 have hlen:((s.data.toList.drop k).take n).length=n:=by rw[List.length_take];simp;omega
 constructor
 ·have:=Yc _ _ _ _ _ k (s.data.toList.drop (k+n)) hst;rw[hlen,<-hsp]at this;exact this
 ·intro ho;have:=XX ho _ _ _ _ _ k (s.data.toList.drop (k+n)) hst;rw[hlen,<-hsp]at this;rw[if_neg (by omega)];exact this
theorem Yu {d:UInt8} (h:c≠d):(c.toNat:Int)≠(d.toNat:Int):=fun e=>h (UInt8.toNat_inj.1 (by omega))
theorem NP (v:Int) (h0:0<=v) (h1:v<256):Rf.cntTo (Pg.withF (fun _=>false) v v) 256≠0:=by
 obtain⟨n,rfl⟩:=Int.eq_ofNat_of_zero_le h0;have:∀(f:Nat->Bool) (k:Nat),f k=true->∀n,k<n->0<Rf.cntTo f n:=by
  intro f k hk n
  induction n with
  |zero=>intro h;omega
  |succ n ih=>
   intro h;unfold Rf.cntTo;by_cases e:k=n
   ·subst e;simp[hk]
   ·have:=ih (by omega);omega
 have:=this (Pg.withF (fun _=>false) (n:Int) (n:Int)) n (by simp[Pg.withF]) 256 (by omega);omega
theorem Iv:Rf.cntTo (fun k=>!(Pg.withF (fun _=>false) 10 10 k)) 256≠0:=by decide +kernel
theorem Xl {l:List UInt8} (hd:l.drop k=c::r) (h1:c≠92) (h2:c≠91) (h3:c≠123) (v:Nat):Rf.valueFrom l (v+1) k=Rf.valueFrom l v (k+1):=by
 rw[Rf.valueFrom,hd];simp only[if_neg h1,if_neg h2,if_neg h3]
theorem XG {l:List UInt8} (hd:l.drop k=c::r) (h1:c≠92) (h2:c≠91) (v:Nat):Rf.emptyFrom l (v+1) k=Rf.emptyFrom l v (k+1):=by
 rw[Rf.emptyFrom,hd];simp only[if_neg h1,if_neg h2]
theorem I8 (s:ByteArray) (k:Nat) (t:List UInt8) (m b op:Int) (hm:m=0\/m=1) (hd:s.data.toList.drop k=91::t):
  P9 s k m b op 1\/((Pg.readPart (Y5 s) s.size k 1).ok=false/\Rf.formFrom m b op k (s.data.toList.drop k)=(Pg.readPart (Y5 s) s.size k 1).n):=by
 have hb:Y5 s (k:Int)=91:=by rw[US hd];rfl
 have hP:Pg.readPart (Y5 s) s.size k 1=⟨(Pg.readSet (Y5 s) s.size k).n,(Pg.readSet (Y5 s) s.size k).ok,(Pg.readSet (Y5 s) s.size k).f,0,(Pg.readSet (Y5 s) s.size k).fa⟩:=by
  rw[Pg.readPart,if_pos rfl,Pg.readPlace,if_pos hb]
 rcases Tm s k t m b op hm hd with ⟨n,F,FA,h1,h2,h3,h4,h5,b',h6⟩|⟨h1,h2⟩
 ·left;obtain⟨g1,g2⟩:=Xj (n:=n-k) (by omega) h6;rw[show k+(n-k)=n by omega]at g1 g2;refine⟨n-k,F,0,FA,b',by omega,by omega,?_,?_,?_,h5,⟨1,fun v=>?_⟩,⟨1,fun v=>?_⟩⟩
  ·rw[hP,h3,show k+(n-k)=n by omega]
  ·rw[show k+(n-k)=n by omega];exact g1
  ·rw[show k+(n-k)=n by omega];exact g2
  ·rw[show k+(n-k)=n by omega,Rf.valueFrom,hd];simp only[h4];by_cases hf:FA=-1
   ·subst hf;simp
   ·simp[hf,show 0<=FA by omega]
  ·rw[show k+(n-k)=n by omega,Rf.emptyFrom,hd];simp[h4]
 ·right;exact⟨by rw[hP];exact h1,by rw[hP];exact h2⟩
theorem I7 (s:ByteArray) (k:Nat) (t:List UInt8) (m b op:Int) (hm:m=0\/m=1) (hd:s.data.toList.drop k=92::t):
  P9 s k m b op 1\/((Pg.readPart (Y5 s) s.size k 1).ok=false/\Rf.formFrom m b op k (s.data.toList.drop k)=(Pg.readPart (Y5 s) s.size k 1).n):=by
 have hb:Y5 s (k:Int)=92:=by rw[US hd];rfl
 have hP:Pg.readPart (Y5 s) s.size k 1=⟨(Pg.readEscape (Y5 s) k).n,(Pg.readEscape (Y5 s) k).ok,Pg.withF (fun _=>false) (Pg.readEscape (Y5 s) k).v (Pg.readEscape (Y5 s) k).v,0,-1⟩:=by
  rw[Pg.readPart,if_pos rfl,Pg.readPlace,if_neg (by rw[hb];decide),if_neg (by rw[hb];decide),if_pos hb]
 have h2:Rf.read m b op ((92:UInt8).toNat:Int)=⟨true,2,1,op⟩:=by rcases hm with rfl|rfl<;>rfl
 rcases Uz s k t hd with ⟨n,v,h1,h3,h4,h5⟩|⟨n,h1,h3,h4⟩
 ·left;have hlen:t.length+1=s.size-k:=by
   have:(s.data.toList.drop k).length=s.size-k:=by simp
   rw[hd]at this;simpa using this
  have hst:YH m b op ((s.data.toList.drop k).take (n+1))=some (1,1):=by
   rw[hd,List.take_succ_cons,YE _ h2 rfl rfl];exact h5 1 op
  have hvb:=Rf.one_bd h3;have hlt:=XW hd;obtain⟨g1,g2⟩:=Xj (n:=n+1) (by omega) hst;refine⟨n+1,Pg.withF (fun _=>false) v v,0,-1,1,by omega,by omega,by rw[hP,h1],g1,g2,by omega,⟨1,fun v'=>?_⟩,⟨1,fun v'=>?_⟩⟩
  ·rw[Rf.valueFrom,hd];simp only[h3];simp
  ·rw[Rf.emptyFrom,hd];simp only[h3];simp[NP v hvb.1 hvb.2.1]
 ·right;refine⟨by rw[hP];exact h1,?_⟩;rw[hP,hd,XA _ h2 rfl,h4 1 op];exact h3.symm
theorem VN (s:ByteArray) (k:Nat) (c:UInt8) (r:List UInt8) (m b op kd:Int) (F:Nat->Bool) (x:Rf.RS) (hd:s.data.toList.drop k=c::r) (h92:c≠92) (h91:c≠91) (h123:c≠123)
  (hx:Rf.read m b op c.toNat=x) (hok:x.ok=true) (hxm:x.m=XB kd) (hxo:x.o=Pg.opens kd op) (hp:Pg.readPart (Y5 s) s.size k kd=⟨(k:Int)+1,true,F,0,-1⟩) (hc:¬(kd=1/\Rf.cntTo F 256=0)):P9 s k m b op kd:=by
 have hlt:=XW hd;have hd1:s.data.toList.drop (k+1)=r:=by rw[<-YT,hd];rfl
 refine⟨1,F,0,-1,x.bk,by omega,by omega,by rw[hp];rfl,?_,fun _=>?_,by omega,⟨1,fun v=>?_⟩,⟨1,fun v=>?_⟩⟩
 ·rw[hd,XA x hx hok,hxm,hxo,hd1]
 ·rw[hd,Rf.deepFrom,hx,hxm,hxo,hd1]
 ·rw[Xl hd h92 h91 h123];simp
 ·rw[XG hd h92 h91,if_neg hc]
theorem Ni (b o c:Int):Rf.read 5 b o c=⟨Rf.digit c,if Rf.digit c then 6 else 5,b,o⟩:=by simp[Rf.read,Rf.to]
theorem IZ (b o:Int):Rf.read 6 b o 44=⟨true,7,b,o⟩:=by simp[Rf.read]
theorem Ko (b o c:Int) (h:c≠44):Rf.read 6 b o c=⟨c==125,if (c==125)=true then 1 else 6,b,o⟩:=by simp only[Rf.read,Rf.to,if_neg h];rfl
theorem PM (b o c:Int):Rf.read 7 b o c=⟨Rf.digit c,if Rf.digit c then 8 else 7,b,o⟩:=by simp[Rf.read,Rf.to]
theorem Kr (b o c:Int):Rf.read 8 b o c=⟨c==125,if (c==125)=true then 1 else 8,b,o⟩:=by simp only[Rf.read,Rf.to];rfl
theorem Up (c:Int) (h:¬Pg.digitValue c<0):Pg.digitValue c=c-48/\48<=c/\c<=57:=by
 unfold Pg.digitValue at h ⊢;split
 ·rename_i h1;exact⟨rfl,h1.1,h1.2⟩
 ·rename_i h1;rw[if_neg h1]at h;omega
def Ik (t:List UInt8) (n:Nat) (mo le:Int):Prop:=
 (∃x r,t=x::125::r/\n=3/\48<=(x.toNat:Int)/\(x.toNat:Int)<=57/\mo=(x.toNat:Int)-48/\le=(x.toNat:Int)-48) \/
 (∃x z r,t=x::44::z::125::r/\n=5/\48<=(x.toNat:Int)/\(x.toNat:Int)<=57/\48<=(z.toNat:Int)/\(z.toNat:Int)<=57/\mo=(z.toNat:Int)-48/\le=(x.toNat:Int)-48)
theorem Sw (s:ByteArray) (k:Nat) (t:List UInt8) (b o:Int) (hd:s.data.toList.drop k=123::t):
  (∃(n:Nat) (mo le:Int),Pg.readCount (Y5 s) k=⟨mo,((k+n:Nat):Int),true⟩/\Pg.digitValue (Y5 s ((k:Int)+1))=le/\Ik t n mo le/\YH 1 b o ((123::t).take n)=some (1,b)) \/
  ((Pg.readCount (Y5 s) k).ok=false/\Rf.formFrom 1 b o k (123::t)=(Pg.readCount (Y5 s) k).n):=by
 have e1:=NI hd;have e2:=Ic hd;have e3:=Id hd;have e4:=GA hd;have a1:(k:Int)+2+1=(k:Int)+3:=by omega
 have a2:(k:Int)+2+2=(k:Int)+4:=by omega
 have h5:Rf.read 1 b o ((123:UInt8).toNat:Int)=⟨true,5,b,o⟩:=rfl;rcases t with _|⟨x,t⟩
 ·right;have hx:Pg.digitValue (Y5 s ((k:Int)+1))<0:=by rw[e1];simp[at_,Pg.digitValue]
  rw[Pg.readCount,if_pos hx];refine⟨rfl,?_⟩;rw[XA _ h5 rfl,Vp _ _ _ _ (by simp)];first|(simp;done)|(simp;omega)|omega
 have e1':Y5 s ((k:Int)+1)=x.toNat:=by rw[e1];rfl
 by_cases hx:Pg.digitValue x.toNat<0
 ·right;have hx1:Rf.digit x.toNat=false:=by rw[Uy];simp;omega
  rw[Pg.readCount,e1',if_pos hx];refine⟨rfl,?_⟩;rw[XA _ h5 rfl,VF _ (Ni b o _) hx1];first|(simp;done)|(simp;omega)|omega
 have hx1:Rf.digit x.toNat=true:=by rw[Uy];simp;omega
 obtain⟨x1,x2,x3⟩:=Up _ hx;have hC:Pg.readCount (Y5 s) k=Pg.readMost (Y5 s) ((k:Int)+2) ((x.toNat:Int)-48):=by rw[Pg.readCount,e1',if_neg hx,x1]
 have hf5:∀r,Rf.formFrom 1 b o k (123::x::r)=Rf.formFrom 6 b o (k+2) r:=fun r=>by
  rw[XA _ h5 rfl,XA _ (Ni b o _) hx1];simp only[hx1,if_true]
 have hs5:∀r,YH 1 b o (123::x::r)=YH 6 b o r:=fun r=>by
  rw[YE _ h5 rfl rfl,YE _ (Ni b o _) hx1 rfl];simp only[hx1,if_true]
 rcases t with _|⟨y,t⟩
 ·right;have hy:Y5 s ((k:Int)+2)=-1:=by rw[e2];rfl
  rw[hC,Pg.readMost,hy];refine⟨rfl,?_⟩;rw[hf5,Vp _ _ _ _ (by simp)];first|(simp;done)|(simp;omega)|omega
 have e2':Y5 s ((k:Int)+2)=y.toNat:=by rw[e2];rfl
 by_cases hy125:y=125
 ·subst hy125;left;refine⟨3,(x.toNat:Int)-48,(x.toNat:Int)-48,?_,by rw[e1',x1],Or.inl ⟨x,t,rfl,rfl,x2,x3,rfl,rfl⟩,?_⟩
  ·rw[hC,Pg.readMost,e2',if_pos (by decide),show(k:Int)+2+1=((k+3:Nat):Int) by omega]
  ·show YH 1 b o [123,x,125]=_;rw[hs5,YE _ (Ko b o _ (by decide)) (by rfl) rfl];rfl
 have hy125':=Yu hy125;have hy125'':(y.toNat:Int)≠125:=hy125';by_cases hy44:y=44
 ·subst hy44;have h7:Rf.read 6 b o ((44:UInt8).toNat:Int)=⟨true,7,b,o⟩:=IZ b o;have hM:Pg.readCount (Y5 s) k=if Pg.digitValue (Y5 s ((k:Int)+3))<0 then ⟨0,(k:Int)+3,false⟩ else if Y5 s ((k:Int)+4)=125 then ⟨Pg.digitValue (Y5 s ((k:Int)+3)),(k:Int)+2+3,true⟩ else ⟨0,(k:Int)+4,false⟩:=by
   rw[hC,Pg.readMost,e2',if_neg (by decide),if_pos (by decide),a1,a2]
  rcases t with _|⟨z,t⟩
  ·right;have hz:Pg.digitValue (Y5 s ((k:Int)+3))<0:=by rw[e3];simp[at_,Pg.digitValue]
   rw[hM,if_pos hz];refine⟨rfl,?_⟩;rw[hf5,XA _ h7 rfl,Vp _ _ _ _ (by simp)];first|(simp;done)|(simp;omega)|omega
  have e3':Y5 s ((k:Int)+3)=z.toNat:=by rw[e3];rfl
  by_cases hz:Pg.digitValue z.toNat<0
  ·right;have hz1:Rf.digit z.toNat=false:=by rw[Uy];simp;omega
   rw[hM,e3',if_pos hz];refine⟨rfl,?_⟩;rw[hf5,XA _ h7 rfl,VF _ (PM b o _) hz1];first|(simp;done)|(simp;omega)|omega
  have hz1:Rf.digit z.toNat=true:=by rw[Uy];simp;omega
  obtain⟨z1,z2,z3⟩:=Up _ hz;rcases t with _|⟨y2,t⟩
  ·right;have hq:Y5 s ((k:Int)+4)=-1:=by rw[e4];rfl
   rw[hM,e3',if_neg hz,hq,if_neg (by decide)];refine⟨rfl,?_⟩;rw[hf5,XA _ h7 rfl,XA _ (PM b o _) hz1];simp only[hz1,if_true];rw[Vp _ _ _ _ (by simp)];first|(simp;done)|(simp;omega)|omega
  have e4':Y5 s ((k:Int)+4)=y2.toNat:=by rw[e4];rfl
  by_cases hq:y2=125
  ·subst hq;left;refine⟨5,(z.toNat:Int)-48,(x.toNat:Int)-48,?_,by rw[e1',x1],Or.inr ⟨x,z,t,rfl,rfl,x2,x3,z2,z3,rfl,rfl⟩,?_⟩
   ·rw[hM,e3',if_neg hz,e4',if_pos (by decide),z1,show(k:Int)+2+3=((k+5:Nat):Int) by omega]
   ·show YH 1 b o [123,x,44,z,125]=_;rw[hs5,YE _ h7 rfl rfl,YE _ (PM b o _) hz1 rfl];simp only[hz1,if_true];rw[YE _ (Kr b o _) (by rfl) rfl];rfl
  ·right;have hq':(y2.toNat:Int)≠125:=Yu hq;rw[hM,e3',if_neg hz,e4',if_neg hq'];refine⟨rfl,?_⟩;rw[hf5,XA _ h7 rfl,XA _ (PM b o _) hz1];simp only[hz1,if_true];rw[VF _ (Kr b o _) (by simpa using hq')];first|(simp;done)|(simp;omega)|omega
 ·right;have hy44':(y.toNat:Int)≠44:=Yu hy44;rw[hC,Pg.readMost,e2',if_neg hy125'',if_neg hy44'];refine⟨rfl,?_⟩;rw[hf5,VF _ (Ko b o _ hy44') (by simpa using hy125'')];first|(simp;done)|(simp;omega)|omega
theorem WI {x:UInt8} (h0:48<=(x.toNat:Int)) (h1:(x.toNat:Int)<=57):x≠92/\x≠91/\x≠123:=by
 refine⟨?_,?_,?_⟩<;>(intro e;subst e;revert h0 h1;decide)
theorem LT (s:ByteArray) (k:Nat) (t:List UInt8) (b op:Int) (hd:s.data.toList.drop k=123::t):
  P9 s k 1 b op 8\/((Pg.readPart (Y5 s) s.size k 8).ok=false/\Rf.formFrom 1 b op k (s.data.toList.drop k)=(Pg.readPart (Y5 s) s.size k 8).n):=by
 have hP:Pg.readPart (Y5 s) s.size k 8=⟨(Pg.readCount (Y5 s) k).n,(Pg.readCount (Y5 s) k).ok,fun _=>false,(Pg.readCount (Y5 s) k).v,Pg.countFalls (Y5 s) k⟩:=rfl;have hlenk:(s.data.toList.drop k).length=s.size-k:=by simp
 rw[hd]at hlenk;rcases Sw s k t b op hd with ⟨n,mo,le,h1,h2,h3,h4⟩|⟨h1,h2⟩
 ·left;have hlt:=XW hd;have hn:1<=n/\k+n<=s.size:=by
   rcases h3 with ⟨x,r,rfl,rfl,_⟩|⟨x,z,r,rfl,rfl,_⟩<;>(simp at hlenk;omega)
  have hF:Pg.countFalls (Y5 s) k=if mo<le then (k:Int) else -1:=by rw[Pg.countFalls,h1,h2]
  rw[<-hd]at h4;obtain⟨g1,g2⟩:=Xj hn.2 h4;refine⟨n,fun _=>false,mo,if mo<le then (k:Int) else -1,b,hn.1,hn.2,by rw[hP,h1,hF],g1,g2,by split<;>omega,?_,?_⟩
  ·rcases h3 with ⟨x,r,rfl,rfl,x1,x2,rfl,rfl⟩|⟨x,z,r,rfl,rfl,x1,x2,z1,z2,rfl,rfl⟩
   ·have d1:s.data.toList.drop (k+1)=x::125::r:=by rw[<-YT,hd];rfl
    have d2:s.data.toList.drop (k+2)=125::r:=by rw[<-YT,hd];rfl
    obtain⟨q1,q2,q3⟩:=WI x1 x2;refine⟨3,fun v=>?_⟩;have hfa:(if (x.toNat:Int)-48<(x.toNat:Int)-48 then (k:Int) else -1)=-1:=if_neg (by omega);simp only[hfa,if_true];rw[show v+3=v+2+1 by omega,Rf.valueFrom,hd];simp only;rw[if_neg (by decide),if_neg (by decide),if_pos trivial,if_neg (by decide)];rw[show v+2=v+1+1 by omega,Xl d1 q1 q2 q3,Xl d2 (by decide) (by decide) (by decide)]
   ·have d1:s.data.toList.drop (k+1)=x::44::z::125::r:=by rw[<-YT,hd];rfl
    have d2:s.data.toList.drop (k+2)=44::z::125::r:=by rw[<-YT,hd];rfl
    have d3:s.data.toList.drop (k+3)=z::125::r:=by rw[<-YT,hd];rfl
    have d4:s.data.toList.drop (k+4)=125::r:=by rw[<-YT,hd];rfl
    obtain⟨q1,q2,q3⟩:=WI x1 x2;obtain⟨p1,p2,p3⟩:=WI z1 z2;refine⟨5,fun v=>?_⟩;rw[show v+5=v+4+1 by omega,Rf.valueFrom,hd];simp only;rw[if_neg (by decide),if_neg (by decide),if_pos trivial,if_pos trivial];by_cases hlt2:z.toNat<x.toNat
    ·have hfa:(if (z.toNat:Int)-48<(x.toNat:Int)-48 then (k:Int) else -1)=k:=if_pos (by omega);rw[if_pos hlt2,hfa,if_neg (by omega)]
    ·have hfa:(if (z.toNat:Int)-48<(x.toNat:Int)-48 then (k:Int) else -1)=-1:=if_neg (by omega);rw[if_neg hlt2];simp only[hfa,if_true];rw[show v+4=v+3+1 by omega,Xl d1 q1 q2 q3,show v+3=v+2+1 by omega,Xl d2 (by decide) (by decide) (by decide),show v+2=v+1+1 by omega,Xl d3 p1 p2 p3,Xl d4 (by decide) (by decide) (by decide)]
  ·rcases h3 with ⟨x,r,rfl,rfl,x1,x2,rfl,rfl⟩|⟨x,z,r,rfl,rfl,x1,x2,z1,z2,rfl,rfl⟩
   ·have d1:s.data.toList.drop (k+1)=x::125::r:=by rw[<-YT,hd];rfl
    have d2:s.data.toList.drop (k+2)=125::r:=by rw[<-YT,hd];rfl
    obtain⟨q1,q2,q3⟩:=WI x1 x2;refine⟨3,fun v=>?_⟩;rw[if_neg (by omega),show v+3=v+2+1 by omega,XG hd (by decide) (by decide),show v+2=v+1+1 by omega,XG d1 q1 q2,XG d2 (by decide) (by decide)]
   ·have d1:s.data.toList.drop (k+1)=x::44::z::125::r:=by rw[<-YT,hd];rfl
    have d2:s.data.toList.drop (k+2)=44::z::125::r:=by rw[<-YT,hd];rfl
    have d3:s.data.toList.drop (k+3)=z::125::r:=by rw[<-YT,hd];rfl
    have d4:s.data.toList.drop (k+4)=125::r:=by rw[<-YT,hd];rfl
    obtain⟨q1,q2,q3⟩:=WI x1 x2;obtain⟨p1,p2,p3⟩:=WI z1 z2;refine⟨5,fun v=>?_⟩;rw[if_neg (by omega),show v+5=v+4+1 by omega,XG hd (by decide) (by decide),show v+4=v+3+1 by omega,XG d1 q1 q2,show v+3=v+2+1 by omega,XG d2 (by decide) (by decide),show v+2=v+1+1 by omega,XG d3 p1 p2,XG d4 (by decide) (by decide)]
 ·right;refine⟨by rw[hP];exact h1,?_⟩;rw[hP,hd];exact h2
end Go.Proofs.Ytoaaklhpmhjhkab
