import Derived.Test.YtoaaklhpmhjhkaaGreatC01
set_option maxRecDepth 100000
set_option maxHeartbeats 4000000
set_option linter.all false
namespace Go.Proofs.YtoaaklhpmhjhkaaGreat
open Go.RowKit
namespace Pg
def readCount (g:Int->Int) (i:Int):R:=if digitValue (g (i+1))<0 then ⟨0,i+1,false⟩ else readMost g (i+2) (digitValue (g (i+1)))
def countFalls (g:Int->Int) (i:Int):Int:=if (readCount g i).v<digitValue (g (i+1)) then i else -1
def readPlace (g:Int->Int) (len i:Int):S:=
 if g i=91 then readSet g len i
 else if g i=46 then ⟨i+1,true,λk=>!(withF (λ_=>false) 10 10 k),-1⟩
 else if g i=92 then ⟨(readEscape g i).n,(readEscape g i).ok,withF (λ_=>false) (readEscape g i).v (readEscape g i).v,-1⟩
 else ⟨i+1,true,withF (λ_=>false) (g i) (g i),-1⟩
structure T where
 n:Int
 ok:Bool
 f:Nat->Bool
 mo:Int
 fa:Int
def readPart (g:Int->Int) (len i kind:Int):T:=
 if kind=1 then ⟨(readPlace g len i).n,(readPlace g len i).ok,(readPlace g len i).f,0,(readPlace g len i).fa⟩
 else if kind=8 then ⟨(readCount g i).n,(readCount g i).ok,λ_=>false,(readCount g i).v,countFalls g i⟩
 else ⟨i+1,true,λ_=>false,0,-1⟩
structure Pt where
 kd:Int
 pl:Int
 f:Nat->Bool
 le:Int
 mo:Int
 fa:Int
def Pt.strip (p:Pt):Pt:={ p with le:=0 }
structure PR where
 n:Int
 ok:Bool
 ps:List Pt
def opens (kd op:Int):Int:=if kd=2 then op+1 else if kd=3 then op-1 else op
theorem opens_opn (kd op:Int):opens kd op=op+opn kd:=by
 unfold opens opn;repeat' split
 all_goals omega
def partsFrom (g:Int->Int) (len:Int):Nat->Int->Int->Int->List Pt->PR
 |0,_,_,i,_=>⟨i,false,[]⟩
 |u+1,before,op,i,acc=>
  if i<len then
   (if canStand (kindOf (g i)) before op then
    (if (readPart g len i (kindOf (g i))).ok then partsFrom g len u (kindOf (g i)) (opens (kindOf (g i)) op) (readPart g len i (kindOf (g i))).n (acc++[⟨kindOf (g i),i,(readPart g len i (kindOf (g i))).f,0,(readPart g len i (kindOf (g i))).mo,(readPart g len i (kindOf (g i))).fa⟩])
    else ⟨(readPart g len i (kindOf (g i))).n,false,[]⟩)
   else ⟨i,false,[]⟩)
  else ⟨i,op==0,acc⟩
def readParts (g:Int->Int) (len:Int):PR:=partsFrom g len (len.toNat+1) 0 0 0 []
theorem setLoop_bd (g:Int->Int) (len first:Int) (y:∀j,-1<=g j/\g j<256):∀(u:Nat) (e fa:Int) (f:N_),(setLoop g len first u e fa f).ok=true->e<(setLoop g len first u e fa f).n/\(setLoop g len first u e fa f).n<=len:=by
 intro u
 induction u with
 |zero=>intro e fa f h;simp[setLoop]at h
 |succ u ih=>
  intro e fa f h;have d:=readItem_bd g e y;unfold setLoop at h ⊢;split
  ·rename_i b;rw[if_pos b]at h;split
   ·simp;omega
   rename_i c;rw[if_neg c]at h;split
   ·rename_i a;rw[if_pos a]at h;have:=ih _ _ _ h;have:=d.2.2 a;omega
   rename_i a;rw[if_neg a]at h;simp at h
  rename_i b;rw[if_neg b]at h;simp at h
theorem readSet_bd (g:Int->Int) (len i:Int) (y:∀j,-1<=g j/\g j<256) (h:(readSet g len i).ok=true):i<(readSet g len i).n/\(readSet g len i).n<=len:=by
 unfold readSet at h ⊢;split
 ·rename_i a;rw[if_pos a]at h;have:=setLoop_bd g len (i+2) y _ _ _ _ h;simp only;omega
 rename_i a;rw[if_neg a]at h;have:=setLoop_bd g len (i+1) y _ _ _ _ h;omega
theorem readPart_bd (g:Int->Int) (len i kd:Int) (y:∀j,-1<=g j/\g j<256) (z:len<=40) (h:(readPart g len i kd).ok=true):i<(readPart g len i kd).n/\(readPart g len i kd).n<=i+5+40\/(readPart g len i kd).n<=40/\i<(readPart g len i kd).n:=by
 have b:=readEscape_bd g i y;unfold readPart at h ⊢;split
 ·rename_i a;rw[if_pos a]at h;simp only at h ⊢;unfold readPlace at h ⊢;split
  ·rename_i h1;rw[if_pos h1]at h;have:=readSet_bd g len i y h;omega
  rename_i h1;rw[if_neg h1]at h;split
  ·simp;omega
  split
  ·simp;omega
  simp;omega
 split
 ·simp only;unfold readCount readMost
  repeat' split
  all_goals (simp;omega)
 simp;omega
/-! What looks Xp the parts. -/
def tooDeep:List Pt->Int->Int
 |[],_=>-1
 |p::r,op=>if 6<opens p.kd op then p.pl else tooDeep r (opens p.kd op)
def falling:List Pt->Int
 |[]=>-1
 |p::r=>if p.fa=-1 then falling r else p.fa
def matchless:List Pt->Int
 |[]=>-1
 |p::r=>if p.kd=1/\Rf.cntTo p.f 256=0 then p.pl else matchless r
structure C where
 ah:Int
 la:Int
 st:List Int
def cStep (c:C) (p:Pt):C:=
 if p.kd=1 then ⟨capped (c.ah+c.la),1,c.st⟩
 else if p.kd=2 then ⟨0,0,capped (c.ah+c.la)::c.st⟩
 else if p.kd=3 then
  (match c.st with
  |[]=>⟨0,capped (c.ah+c.la),[]⟩
  |x::r=>⟨x,capped (c.ah+c.la),r⟩)
 else if p.kd=4 then ⟨capped (c.ah+c.la),0,c.st⟩
 else if p.kd=8 then ⟨c.ah,capped (c.la*p.mo),c.st⟩
 else c
def cRun:List Pt->C->C
 |[],c=>c
 |p::r,c=>cRun r (cStep c p)
def countPlaces (ps:List Pt):Int:=capped ((cRun ps ⟨0,0,[]⟩).ah+(cRun ps ⟨0,0,[]⟩).la)
theorem tooDeep_strip (ps:List Pt):∀op,tooDeep (ps.map Pt.strip) op=tooDeep ps op:=by
 induction ps with
 |nil=>intro op;rfl
 |cons p r ih=>intro op;simp only[List.map_cons,tooDeep,Pt.strip];rw[ih]
theorem falling_strip (ps:List Pt):falling (ps.map Pt.strip)=falling ps:=by
 induction ps with
 |nil=>rfl
 |cons p r ih=>simp only[List.map_cons,falling,Pt.strip];rw[ih]
theorem matchless_strip (ps:List Pt):matchless (ps.map Pt.strip)=matchless ps:=by
 induction ps with
 |nil=>rfl
 |cons p r ih=>simp only[List.map_cons,matchless,Pt.strip];rw[ih]
theorem cRun_strip (ps:List Pt):∀c,cRun (ps.map Pt.strip) c=cRun ps c:=by
 induction ps with
 |nil=>intro c;rfl
 |cons p r ih=>intro c;simp only[List.map_cons,cRun];rw[ih];rfl
theorem countPlaces_strip (ps:List Pt):countPlaces (ps.map Pt.strip)=countPlaces ps:=by unfold countPlaces;rw[cRun_strip]
def wrong (g:Int->Int) (len:Int):Int × Int:=
 if 40<len then (2,0)
 else if (readParts g len).ok then
  (if tooDeep (readParts g len).ps 0=-1 then
   (if falling (readParts g len).ps=-1 then
    (if matchless (readParts g len).ps=-1 then (0,0) else (6,matchless (readParts g len).ps))
   else (5,falling (readParts g len).ps))
  else (4,tooDeep (readParts g len).ps 0))
 else (3,(readParts g len).n)
theorem readMost_bd (g:Int->Int) (i l:Int) (h0:0<=l) (y:l<=9):0<=(readMost g i l).v/\(readMost g i l).v<=9:=by
 have:=digitValue_bd (g (i+1));unfold readMost
 repeat' split
 all_goals (simp;try omega)
theorem readPart_mo (g:Int->Int) (len i kd:Int):0<=(readPart g len i kd).mo/\(readPart g len i kd).mo<=9:=by
 unfold readPart;split
 ·simp
 split
 ·simp only;unfold readCount;have:=digitValue_bd (g (i+1));split
  ·simp
  exact readMost_bd _ _ _ (by omega) (by omega)
 simp
theorem partsFrom_mo (g:Int->Int) (len:Int):∀(u:Nat) (b op i:Int) (y:List Pt),(∀p∈y,0<=p.mo/\p.mo<=9)->∀p∈(partsFrom g len u b op i y).ps,0<=p.mo/\p.mo<=9:=by
 intro u
 induction u with
 |zero=>intro b op i y _ p a;simp[partsFrom]at a
 |succ u ih=>
  intro b op i y c p a;unfold partsFrom at a;split at a
  ·split at a
   ·split at a
    ·refine ih _ _ _ _ ?_ p a;intro q d;rcases ZU.1 d with h|h
     ·exact c q h
     simp only[ZC]at h;subst h;exact readPart_mo _ _ _ _
    simp at a
   simp at a
  exact c p a
theorem readParts_mo (g:Int->Int) (len:Int):∀p∈(readParts g len).ps,0<=p.mo/\p.mo<=9:=partsFrom_mo g len _ _ _ _ _ (by simp)
theorem capped_le (n:Int) (h:0<=n):0<=capped n/\capped n<=97:=by unfold capped;split<;>omega
end Pg
def at_ (t:List UInt8) (j:Nat):Int:=match t[j]? with|some c=>(c.toNat:Int)|none=>-1
theorem UY (s:ByteArray) (k j:Nat):Y7 s ((k:Int)+(j:Int))=at_ (s.data.toList.drop k) j:=by
 unfold at_ Y7;rw[List.getElem?_drop];by_cases h:k+j<s.size
 ·rw[if_pos ⟨by omega,by omega⟩,show((k:Int)+(j:Int)).toNat=k+j by omega,Zd (by simpa using h),Zf,Zd (by simpa using h)];rfl
 rw[g_,ZB (by simp;omega)]
variable {s:ByteArray}{b' mo:Int}{r:List UInt8}{g i k n:Nat}{F:N_}
theorem SO {t:List UInt8} (h:s.data.toList.drop k=t):Y7 s (k:Int)=at_ t 0:=by
 have:=UY s k 0;rw[h]at this;simpa using this
theorem JK {t:List UInt8} (h:s.data.toList.drop k=t):Y7 s ((k:Int)+1)=at_ t 1:=by
 have:=UY s k 1;rw[h]at this;simpa using this
theorem Db {t:List UInt8} (h:s.data.toList.drop k=t):Y7 s ((k:Int)+2)=at_ t 2:=by
 have:=UY s k 2;rw[h]at this;simpa using this
theorem Dc {t:List UInt8} (h:s.data.toList.drop k=t):Y7 s ((k:Int)+3)=at_ t 3:=by
 have:=UY s k 3;rw[h]at this;simpa using this
theorem Ci {t:List UInt8} (h:s.data.toList.drop k=t):Y7 s ((k:Int)+4)=at_ t 4:=by
 have:=UY s k 4;rw[h]at this;simpa using this
theorem Ph (c:Int):Rf.hex c=decide (0<=Pg.hexValue c):=by
 unfold Rf.hex Rf.digit Pg.hexValue Pg.digitValue;rw[Bool.eq_iff_iff];simp only[Bool.or_eq_true,ZS,decide_eq_true_eq];split
 ·constructor<;>intro<;>omega
 split
 ·constructor<;>intro<;>omega
 constructor<;>intro<;>omega
theorem So (c:Int):Rf.digit c=decide (0<=Pg.digitValue c):=by
 unfold Rf.digit Pg.digitValue;rw[Bool.eq_iff_iff];simp only[ZS,decide_eq_true_eq];split<;>(constructor<;>intro<;>omega)
theorem Ms (c:Int) (h:Rf.hex c=true):Rf.number c=Pg.hexValue c:=by
 unfold Rf.hex Rf.digit at h;simp only[Bool.or_eq_true,ZS,decide_eq_true_eq]at h;unfold Rf.number Rf.digit Pg.hexValue Pg.digitValue;by_cases h1:97<=c/\c<=102
 ·rw[if_pos h1,if_neg (by simp;omega)]
 rw[if_neg h1,if_pos (by simp;omega),p_]
theorem Mp (c:Int):Rf.has Rf.marks c=Pg.isMark c:=by
 simp only[Rf.marks,Rf.has,Pg.isMark,Bool.or_false];rw[Bool.eq_iff_iff];simp only[Bool.or_eq_true,beq_iff_eq];constructor<;>intro h<;>(simp at h ⊢;omega)
theorem Ly (c:Int) (h0:0<=c) (y:c≠92):(!Rf.has Rf.notInner c)=Pg.isInner c:=by
 simp only[Rf.notInner,Rf.has,Pg.isInner,Bool.or_false];congr 1;rw[Bool.eq_iff_iff];simp only[Bool.or_eq_true,beq_iff_eq];constructor<;>intro h<;>(simp at h ⊢;omega)
theorem TP (m b o:Int) (i:Nat) (h:1<m):Rf.formFrom m b o i []=i:=by simp[Rf.formFrom,h]
theorem Xc {m b o:Int}{c:UInt8} (x:Rf.RS) (h:Rf.read m b o c.toNat=x) (y:x.ok=true):Rf.formFrom m b o i (c::r)=Rf.formFrom x.m x.bk x.o (i+1) r:=by
 simp[Rf.formFrom,h,y]
theorem Ul {m b o:Int}{c:UInt8} (x:Rf.RS) (h:Rf.read m b o c.toNat=x) (y:x.ok=false):Rf.formFrom m b o i (c::r)=i:=by
 simp[Rf.formFrom,h,y]
theorem Rb (b o:Int):Rf.read 2 b o 120=⟨true,3,b,o⟩:=by simp[Rf.read]
theorem CV (b o c:Int) (h:c≠120) (y:(c==110 || c==116 || Rf.has Rf.marks c)=true):Rf.read 2 b o c=⟨true,b,b,o⟩:=by
 simp only[Rf.read,if_neg h,y];rfl
theorem DW (b o c:Int) (h:c≠120) (y:(c==110 || c==116 || Rf.has Rf.marks c)=false):Rf.read 2 b o c=⟨false,2,b,o⟩:=by
 simp only[Rf.read,if_neg h,y];rfl
theorem LO (b o c:Int):Rf.read 3 b o c=⟨Rf.hex c,if Rf.hex c then 4 else 3,b,o⟩:=by simp[Rf.read,Rf.to]
theorem Fo (b o c:Int):Rf.read 4 b o c=⟨Rf.hex c,if Rf.hex c then b else 4,b,o⟩:=by simp[Rf.read,Rf.to]
def X3 (m b o:Int):List UInt8->Option (Int × Int)
 |[]=>some (m,b)
 |c::r=>if (Rf.read m b o c.toNat).ok=true/\(Rf.read m b o c.toNat).o=o then X3 (Rf.read m b o c.toNat).m (Rf.read m b o c.toNat).bk o r else none
theorem YA {m b o:Int}{c:UInt8} (x:Rf.RS) (h:Rf.read m b o c.toNat=x) (z:x.ok=true) (y:x.o=o):X3 m b o (c::r)=X3 x.m x.bk o r:=by
 rw[X3,h,if_pos ⟨z,y⟩]
theorem Ub {o:Int}:∀(w:List UInt8) (m b y b':Int) (i:Nat) (r:List UInt8),X3 m b o w=some (y,b')->Rf.formFrom m b o i (w++r)=Rf.formFrom y b' o (i+w.length) r
 |[],m,b,y,b',i,r,h=>by simp only[X3,Zp,Prod.mk.injEq]at h;rw[h.1,h.2];rfl
 |c::w,m,b,y,b',i,r,h=>by
  rw[X3]at h;split at h
  ·rename_i a;rw[Zt,Xc _ rfl a.1,a.2,Ub w _ _ _ _ _ _ h];congr 1;simp;omega
  cases h
theorem OG {o:Int} (z:o<=6):∀(w:List UInt8) (m b y b':Int) (i:Nat) (r:List UInt8),X3 m b o w=some (y,b')->Rf.deepFrom m b o i (w++r)=Rf.deepFrom y b' o (i+w.length) r
 |[],m,b,y,b',i,r,h=>by simp only[X3,Zp,Prod.mk.injEq]at h;rw[h.1,h.2];rfl
 |c::w,m,b,y,b',i,r,h=>by
  rw[X3]at h;split at h
  ·rename_i a;rw[Zt,Rf.deepFrom,a.2,g_,OG z w _ _ _ _ _ _ h];congr 1;simp;omega
  cases h
theorem Ua {o:Int}:∀(w:List UInt8) (m b y b':Int) (r:List UInt8),X3 m b o w=some (y,b')->X3 m b o (w++r)=X3 y b' o r
 |[],m,b,y,b',r,h=>by simp only[X3,Zp,Prod.mk.injEq]at h;rw[h.1,h.2];rfl
 |c::w,m,b,y,b',r,h=>by
  rw[X3]at h;split at h
  ·rename_i a;rw[Zt,X3,if_pos a];exact Ua w _ _ _ _ _ h
  cases h
theorem Sr (s:ByteArray) (k:Nat) (t:List UInt8) (h:s.data.toList.drop k=92::t):
  (∃(n:Nat) (v:Int),Pg.readEscape (Y7 s) k=⟨v,((k+(n+1):Nat):Int),true⟩/\Rf.one (92::t)=some (v,n+1)/\n<=t.length/\∀b o,X3 2 b o (t.take n)=some (b,b)) \/
  (∃n:Nat,(Pg.readEscape (Y7 s) k).ok=false/\(Pg.readEscape (Y7 s) k).n=((k+n:Nat):Int)/\∀b o,Rf.formFrom 2 b o (k+1) t=((k+n:Nat):Int)):=by
 have D:=JK h;have e2:=Db h;have E:=Dc h;have l:(k:Int)+2+1=(k:Int)+3:=by omega
 rcases t with _|⟨d,t⟩
 ·right;refine⟨1,?_,?_,λb o=>?_⟩
  ·simp[Pg.readEscape,D,at_,Pg.isMark]
  ·simp[Pg.readEscape,D,at_,Pg.isMark]
  rw[TP _ _ _ _ (by omega)]
 have i:Y7 s ((k:Int)+1)=d.toNat:=by rw[D];rfl
 by_cases u:d=120
 ·subst u;have z:Pg.readEscape (Y7 s) k=Pg.readHex (Y7 s) ((k:Int)+2):=by
   unfold Pg.readEscape;rw[i];rfl
  rcases t with _|⟨x,t⟩
  ·right;have w:Pg.hexValue (Y7 s ((k:Int)+2))<0:=by rw[e2];simp[at_,Pg.hexValue,Pg.digitValue]
   refine⟨2,?_,?_,λb o=>?_⟩
   ·rw[z,Pg.readHex,if_pos w]
   ·rw[z,Pg.readHex,if_pos w];simp
   rw[Xc _ (Rb b o) rfl,TP _ _ _ _ (by simp)]
  have g:Y7 s ((k:Int)+2)=x.toNat:=by rw[e2];rfl
  by_cases w:Pg.hexValue x.toNat<0
  ·right;have c:Rf.hex x.toNat=false:=by rw[Ph];simp;omega
   refine⟨2,?_,?_,λb o=>?_⟩
   ·rw[z,Pg.readHex,g,if_pos w]
   ·rw[z,Pg.readHex,g,if_pos w];simp
   rw[Xc _ (Rb b o) rfl,Ul _ (LO b o _) c]
  have c:Rf.hex x.toNat=true:=by rw[Ph];simp;omega
  rcases t with _|⟨y,t⟩
  ·right;have C:Pg.hexValue (Y7 s ((k:Int)+3))<0:=by rw[E];simp[at_,Pg.hexValue,Pg.digitValue]
   refine⟨3,?_,?_,λb o=>?_⟩
   ·rw[z,Pg.readHex,g,if_neg w,l,if_pos C]
   ·rw[z,Pg.readHex,g,if_neg w,l,if_pos C];simp
   rw[Xc _ (Rb b o) rfl,Xc _ (LO b o _) c];simp only[c,if_true];rw[TP _ _ _ _ (by simp)]
  have A:Y7 s ((k:Int)+3)=y.toNat:=by rw[E];rfl
  by_cases C:Pg.hexValue y.toNat<0
  ·right;have j:Rf.hex y.toNat=false:=by rw[Ph];simp;omega
   refine⟨3,?_,?_,λb o=>?_⟩
   ·rw[z,Pg.readHex,g,if_neg w,l,A,if_pos C]
   ·rw[z,Pg.readHex,g,if_neg w,l,A,if_pos C];simp
   rw[Xc _ (Rb b o) rfl,Xc _ (LO b o _) c];simp only[c,if_true];rw[Ul _ (Fo b o _) j]
  left;have j:Rf.hex y.toNat=true:=by rw[Ph];simp;omega
  refine⟨3,Pg.hexValue x.toNat*16+Pg.hexValue y.toNat,?_,?_,by simp,λb o=>?_⟩
  ·rw[z,Pg.readHex,g,if_neg w,l,A,if_neg C];rw[show(k:Int)+2+2=((k+(3+1):Nat):Int) by omega]
  ·simp[Rf.one,c,j,Ms _ c,Ms _ j]
  show X3 2 b o [120,x,y]=_;have G:Rf.read 2 b o ((120:UInt8).toNat:Int)=⟨true,3,b,o⟩:=Rb b o;rw[YA _ G rfl rfl,YA _ (LO b o _) c rfl];simp only[c,if_true];rw[YA _ (Fo b o _) j rfl];simp only[j,if_true];rfl
 have a:(d.toNat:Int)≠120:=by
  intro e;exact u (UInt8.toNat_inj.1 (by simpa using (by omega:d.toNat=120)))
 cases hk:((d.toNat:Int)==110 || (d.toNat:Int)==116 || Rf.has Rf.marks d.toNat)
 ·right;have f:=hk;rw[Mp]at f;simp only[Bool.or_eq_false_iff,beq_eq_false_iff_ne]at f;refine⟨1,?_,?_,λb o=>?_⟩
  ·unfold Pg.readEscape;rw[i,if_neg f.1.1,if_neg f.1.2,if_neg a,f.2];rfl
  ·unfold Pg.readEscape;rw[i,if_neg f.1.1,if_neg f.1.2,if_neg a,f.2];simp
  rw[Ul _ (DW b o _ a hk) rfl]
 left;have B:∀b o,X3 2 b o ((d::t).take 1)=some (b,b):=λb o=>by
  show X3 2 b o [d]=_;rw[YA _ (CV b o _ a hk) rfl rfl];rfl
 by_cases m:d=110
 ·subst m;exact⟨1,10,by unfold Pg.readEscape;rw[i,if_pos (by decide),show(k:Int)+2=((k+(1+1):Nat):Int) by omega],by simp[Rf.one],by simp,B⟩
 have p:(d.toNat:Int)≠110:=by
  intro e;exact m (UInt8.toNat_inj.1 (by simpa using (by omega:d.toNat=110)))
 by_cases q:d=116
 ·subst q;exact⟨1,9,by unfold Pg.readEscape;rw[i,if_neg (by decide),if_pos (by decide),show(k:Int)+2=((k+(1+1):Nat):Int) by omega],by simp[Rf.one],by simp,B⟩
 have r:(d.toNat:Int)≠116:=by
  intro e;exact q (UInt8.toNat_inj.1 (by simpa using (by omega:d.toNat=116)))
 have F:Pg.isMark d.toNat=true:=by
  rw[<-Mp];simpa[p,r]using hk
 exact⟨1,d.toNat,by unfold Pg.readEscape;rw[i,if_neg p,if_neg r,if_neg a,F,if_pos rfl,show(k:Int)+2=((k+(1+1):Nat):Int) by omega],by simp[Rf.one,m,q,u],by simp,B⟩
theorem Mu (s:ByteArray) (k:Nat):
  (∃(n:Nat) (v:Int),Pg.readOne (Y7 s) k=⟨v,((k+(n+1):Nat):Int),true⟩/\Rf.one (s.data.toList.drop k)=some (v,n+1)/\n+1<=(s.data.toList.drop k).length /\
   (∀c r,s.data.toList.drop k=c::r->c≠93/\c≠45/\c≠94) /\
   ∀m m' b o,(∀c r,s.data.toList.drop k=c::r->Rf.read m b o c.toNat=Rf.inner m b o c.toNat m')->∃b',X3 m b o ((s.data.toList.drop k).take (n+1))=some (m',b')) \/
  (∃n:Nat,(Pg.readOne (Y7 s) k).ok=false/\(Pg.readOne (Y7 s) k).n=((k+n:Nat):Int) /\
   ∀m m' b o,1<m->(∀c r,s.data.toList.drop k=c::r->Rf.read m b o c.toNat=Rf.inner m b o c.toNat m')->Rf.formFrom m b o k (s.data.toList.drop k)=((k+n:Nat):Int)):=by
 rcases hd:s.data.toList.drop k with _|⟨c,r⟩
 ·have e0:Y7 s (k:Int)=-1:=SO hd;right;refine⟨0,?_,?_,λm m' b o l _=>?_⟩
  ·simp[Pg.readOne,e0,Pg.isInner]
  ·simp[Pg.readOne,e0,Pg.isInner]
  rw[TP _ _ _ _ l];simp
 have e0:Y7 s (k:Int)=c.toNat:=by rw[SO hd];rfl
 by_cases f:c=92
 ·subst f;have i:Pg.readOne (Y7 s) k=Pg.readEscape (Y7 s) k:=by rw[Pg.readOne,if_pos (by rw[e0];rfl)]
  rcases Sr s k r hd with ⟨n,v,h1,h2,h3,t⟩|⟨n,h1,h2,h3⟩
  ·left;refine⟨n,v,by rw[i,h1],h2,by simp;omega,λh q j=>by cases j;decide,λm m' b o d=>⟨m',?_⟩⟩;have g:Rf.read m b o ((92:UInt8).toNat:Int)=⟨true,2,m',o⟩:=by rw[d 92 r rfl];rfl
   rw[ZK,YA _ g rfl rfl];exact t m' o
  right;refine⟨n,by rw[i,h1],by rw[i,h2],λm m' b o l d=>?_⟩;have g:Rf.read m b o ((92:UInt8).toNat:Int)=⟨true,2,m',o⟩:=by rw[d 92 r rfl];rfl
  rw[Xc _ g rfl];exact h3 m' o
 have a:(c.toNat:Int)≠92:=by
  intro e;exact f (UInt8.toNat_inj.1 (by simpa using (by omega:c.toNat=92)))
 have p:=Ly c.toNat (by omega) a;have g:∀m m' b o,(∀h q,c::r=h::q->Rf.read m b o h.toNat=Rf.inner m b o h.toNat m')->Rf.read m b o c.toNat=Rf.to m b o (Pg.isInner c.toNat) m':=λm m' b o d=>by
  rw[d c r rfl,Rf.inner,if_neg a,p]
 cases hin:Pg.isInner c.toNat
 ·right;refine⟨0,?_,?_,λm m' b o l d=>?_⟩
  ·rw[Pg.readOne,e0,if_neg a,hin];rfl
  ·rw[Pg.readOne,e0,if_neg a,hin];simp
  rw[Ul _ (g m m' b o d) (by rw[hin];rfl)];simp
 left;refine⟨0,c.toNat,?_,by simp[Rf.one,f],by simp,?_,λm m' b o d=>⟨b,?_⟩⟩
 ·rw[Pg.readOne,e0,if_neg a,hin,if_pos rfl,show(k:Int)+1=((k+(0+1):Nat):Int) by omega]
 ·intro h q j;cases j;refine⟨?_,?_,?_⟩<;>(intro e;subst e;simp[Pg.isInner]at hin)
 show X3 m b o [c]=_;rw[YA _ (g m m' b o d) (by rw[hin];rfl) rfl,hin];rfl
theorem Mn (u i:Nat) (fa:Int) (f:N_):Rf.items u [] i fa f=none:=by cases u<;>rfl
theorem YV (l:List UInt8) (k n:Nat):(l.drop k).drop n=l.drop (k+n):=List.drop_drop
theorem IW (s:ByteArray) (k:Nat) (m b o:Int) (Z:1<m) (Y:∀c r,s.data.toList.drop k=c::r->Rf.read m b o c.toNat=Rf.inner m b o c.toNat 11):
  (∃(n:Nat) (lo Y:Int),1<=n/\k+n<=s.size/\Pg.readItem (Y7 s) k=⟨lo,Y,((k+n:Nat):Int),true⟩ /\
   (∀u fa f,Rf.items (u+1) (s.data.toList.drop k) k fa f=Rf.items u (s.data.toList.drop (k+n)) (k+n) (if Y<lo/\fa<0 then (k:Int) else fa) (Pg.withF f lo Y)) /\
   ∃m2 b2,X3 m b o ((s.data.toList.drop k).take n)=some (m2,b2)/\((m2=11/\∀c r,s.data.toList.drop (k+n)=c::r->c≠45)\/m2=13)) \/
  (∃n:Nat,(Pg.readItem (Y7 s) k).ok=false/\(Pg.readItem (Y7 s) k).n=((k+n:Nat):Int)/\Rf.formFrom m b o k (s.data.toList.drop k)=((k+n:Nat):Int)):=by
 rcases Mu s k with ⟨n,v,h1,h2,h3,H,I⟩|⟨n,h1,h2,h3⟩
 ·obtain⟨q,x⟩:=I m 11 b o Y;have C:k+(n+1)<=s.size:=by
   have:(s.data.toList.drop k).length=s.size-k:=by simp
   omega
  obtain⟨c,r,d⟩:∃c r,s.data.toList.drop k=c::r:=by
   rcases hd:s.data.toList.drop k with _|⟨c,r⟩
   ·rw[hd]at h3;simp at h3
   exact⟨c,r,rfl⟩
  obtain⟨l,_,_⟩:=H c r d;have i:s.data.toList.drop k=(s.data.toList.drop k).take (n+1)++s.data.toList.drop (k+(n+1)):=by
   rw[<-YV,List.take_append_drop]
  have A:((s.data.toList.drop k).take (n+1)).length=n+1:=by rw[List.length_take];omega
  have p:(Pg.readOne (Y7 s) k).ok=true:=by rw[h1]
  have E:(Pg.readOne (Y7 s) k).n=((k+(n+1):Nat):Int):=by rw[h1]
  have F:(Pg.readOne (Y7 s) k).v=v:=by rw[h1]
  by_cases h:∃j,s.data.toList.drop (k+(n+1))=45::j
  ·obtain⟨j,g⟩:=h;have a:Y7 s ((k+(n+1):Nat):Int)=45:=by rw[SO g];rfl
   have t:s.data.toList.drop (k+(n+1)+1)=j:=by rw[<-YV,g];rfl
   have y:Rf.read 11 q o ((45:UInt8).toNat:Int)=⟨true,12,q,o⟩:=by rfl
   have z:∀c r,s.data.toList.drop (k+(n+1)+1)=c::r->Rf.read 12 q o c.toNat=Rf.inner 12 q o c.toNat 13:=by
    intro c r _;simp[Rf.read,Rf.rest]
   have w:Pg.readItem (Y7 s) k=⟨v,(Pg.readOne (Y7 s) (((k+(n+1)+1:Nat)):Int)).v,(Pg.readOne (Y7 s) (((k+(n+1)+1:Nat)):Int)).n,(Pg.readOne (Y7 s) (((k+(n+1)+1:Nat)):Int)).ok⟩:=by
    rw[Pg.readItem,if_pos p,E,if_pos a,F];rw[show(((k+(n+1):Nat):Int)+1)=((k+(n+1)+1:Nat):Int) by omega]
   rcases Mu s (k+(n+1)+1)with ⟨n2,v2,g1,g2,g3,g4,g5⟩|⟨n2,g1,g2,g3⟩
   ·left;obtain⟨b2,B⟩:=g5 12 13 q o z;have D:k+(n+1)+1+(n2+1)<=s.size:=by
     have:(s.data.toList.drop (k+(n+1)+1)).length=s.size-(k+(n+1)+1):=by simp
     omega
    refine⟨n+1+1+(n2+1),v,v2,by omega,by omega,?_,λu fa f=>?_,13,b2,?_,Or.inr rfl⟩
    ·rw[w,g1,show k+(n+1)+1+(n2+1)=k+(n+1+1+(n2+1)) by omega]
    ·rw[d,Rf.items];simp only[if_neg l];rw[<-d,h2];simp only[YV,g];rw[if_pos trivial,<-t,g2];simp only[YV];rw[show k+(n+1)+1+(n2+1)=k+(n+1+1+(n2+1)) by omega];rfl
    have G:(s.data.toList.drop k).take (n+1+1+(n2+1))=(s.data.toList.drop k).take (n+1)++(45::(s.data.toList.drop (k+(n+1)+1)).take (n2+1)):=by
     rw[show n+1+1+(n2+1)=(n+1)+(1+(n2+1)) by omega,List.take_add,YV,g,t,show 1+(n2+1)=(n2+1)+1 by omega,ZK]
    rw[G,Ua _ _ _ _ _ _ x,YA _ y rfl rfl];exact B
   right;refine⟨n+1+1+n2,by rw[w];exact g1,by rw[w];simp only[g2];omega,?_⟩;rw[i,Ub _ _ _ _ _ _ _ x,A,g,Xc _ y rfl,<-t,g3 12 13 q o (by omega) z];omega
  left;have a:Y7 s ((k+(n+1):Nat):Int)≠45:=by
   rcases hd:s.data.toList.drop (k+(n+1))with _|⟨c2,j⟩
   ·rw[SO hd];simp[at_]
   rw[SO hd];simp only[at_,List.getElem?_cons_zero];intro e;apply h;have:c2=45:=UInt8.toNat_inj.1 (by simpa using (by omega:c2.toNat=45));exact⟨j,by rw[hd,this]⟩
  refine⟨n+1,v,v,by omega,C,?_,λu fa f=>?_,11,q,x,Or.inl ⟨rfl,?_⟩⟩
  ·rw[Pg.readItem,if_pos p,E,if_neg a,F]
  ·rw[d,Rf.items];simp only[if_neg l];rw[<-d,h2];simp only[YV];rcases hd:s.data.toList.drop (k+(n+1))with _|⟨c2,j⟩
   ·rw[Mn]
   simp only;rw[if_neg (λe=>h ⟨j,by rw[hd,e]⟩),g_];rfl
  intro c2 j J e;exact h ⟨j,by rw[J,e]⟩
 right;refine⟨n,?_,?_,h3 m 11 b o Z Y⟩
 ·rw[Pg.readItem,h1];rfl
 rw[Pg.readItem,h1];exact h2
theorem XD {c:UInt8} (h:s.data.toList.drop k=c::r):k<s.size:=by
 rcases ZD k s.size with a|a
 ·exact a
 rw[List.drop_eq_nil_of_le (by simpa using a)]at h;cases h
theorem RO (l:List UInt8) (k n j:Nat):(l.drop k).take (n+j)=(l.drop k).take n++(l.drop (k+n)).take j:=by
 rw[List.take_add,List.drop_drop]
theorem NV (s:ByteArray) (first:Nat) (o:Int):∀(u k:Nat) (fa:Int) (f:N_) (m b:Int),s.size<u+k->k<=s.size->-1<=fa ->
  ((k=first/\(m=10\/(m=9/\∀c r,s.data.toList.drop k=c::r->c≠94)))\/(first<k/\((m=11/\∀c r,s.data.toList.drop k=c::r->c≠45)\/m=13))) ->
  (∃(j:Nat) (F:N_) (FA:Int),k<=j/\j<s.size/\Pg.setLoop (Y7 s) s.size first u k fa f=⟨(j:Int)+1,true,F,FA⟩/\-1<=FA/\(∀v,s.size<v+k->Rf.items v (s.data.toList.drop k) k fa f=some (j,FA,F))/\∃b',X3 m b o ((s.data.toList.drop k).take (j+1-k))=some (1,b')) \/
  ((Pg.setLoop (Y7 s) s.size first u k fa f).ok=false/\Rf.formFrom m b o k (s.data.toList.drop k)=(Pg.setLoop (Y7 s) s.size first u k fa f).n):=by
 intro u
 induction u with
 |zero=>intro k fa f m b h1 h2;omega
 |succ u ih=>
  intro k fa f m b hu hk E a;have z:1<m:=by rcases a with ⟨_,h|h⟩|⟨_,h|h⟩<;>omega
  rcases hd:s.data.toList.drop k with _|⟨c,r⟩
  ·right;have I:k=s.size:=by
    have:s.size<=k:=by simpa using hd
    omega
   have G:¬(k:Int)<(s.size:Int):=by omega
   rw[Pg.setLoop,if_neg G];refine⟨rfl,?_⟩;rw[TP _ _ _ _ z,I]
  have J:=XD hd;have q:(k:Int)<(s.size:Int):=by omega
  have w:Y7 s (k:Int)=c.toNat:=by rw[SO hd];rfl
  by_cases g:c=93/\first<k
  ·left;obtain⟨rfl,D⟩:=g;have X:m=11\/m=13:=by
    rcases a with ⟨h,_⟩|⟨_,h|h⟩
    ·omega
    ·exact Or.inl h.1
    exact Or.inr h
   refine⟨k,f,fa,Zg _,J,?_,E,λv Z=>?_,b,?_⟩
   ·rw[Pg.setLoop,if_pos q,if_pos ⟨by rw[w];rfl,by omega⟩]
   ·rcases v with _|v
    ·omega
    rfl
   rw[show k+1-k=1 by omega];show X3 m b o [93]=_;have hx:Rf.read m b o ((93:UInt8).toNat:Int)=⟨true,1,b,o⟩:=by
    rcases X with rfl|rfl<;>rfl
   rw[YA _ hx rfl rfl];rfl
  have hi:∀B Q,s.data.toList.drop k=B::Q->Rf.read m b o B.toNat=Rf.inner m b o B.toNat 11:=by
   intro B Q P;rw[hd]at P;cases P;have C:∀d:UInt8,c≠d->(c.toNat:Int)≠d.toNat:=λd h e=>h (UInt8.toNat_inj.1 (by omega))
   rcases a with ⟨_,h|⟨h,h2⟩⟩|⟨D,⟨h,h2⟩|h⟩
   ·subst h;simp[Rf.read,Rf.rest]
   ·subst h;have:=C 94 (h2 c r hd);have W:(c.toNat:Int)≠94:=this;simp only[Rf.read,Rf.rest];rw[if_neg W];simp
   ·subst h;have h1:(c.toNat:Int)≠45:=C 45 (h2 c r hd);have h3:(c.toNat:Int)≠93:=C 93 (λe=>g ⟨e,D⟩);simp only[Rf.read,Rf.rest];rw[if_neg h1,if_neg h3];simp
   subst h;have h3:(c.toNat:Int)≠93:=C 93 (λe=>g ⟨e,D⟩);simp only[Rf.read,Rf.rest];rw[if_neg h3];simp
  have M:¬(Y7 s (k:Int)=93/\(first:Int)<k):=by
   rintro ⟨h1,h2⟩;rw[w]at h1;exact g ⟨UInt8.toNat_inj.1 (by simpa using (by omega:c.toNat=93)),by omega⟩
  have O:Pg.setLoop (Y7 s) s.size first (u+1) k fa f=if (Pg.readItem (Y7 s) k).ok then Pg.setLoop (Y7 s) s.size first u (Pg.readItem (Y7 s) k).n (if (Pg.readItem (Y7 s) k).hi<(Pg.readItem (Y7 s) k).lo/\fa=-1 then (k:Int) else fa) (Pg.withF f (Pg.readItem (Y7 s) k).lo (Pg.readItem (Y7 s) k).hi) else ⟨(Pg.readItem (Y7 s) k).n,false,f,fa⟩:=by
   rw[Pg.setLoop,if_pos q,if_neg M]
  rcases IW s k m b o z hi with ⟨n,lo,l,Y,L,H,p,m2,R,A,K⟩|⟨n,h1,h2,h3⟩
  ·have t:Pg.setLoop (Y7 s) s.size first (u+1) k fa f=Pg.setLoop (Y7 s) s.size first u ((k+n:Nat):Int) (if l<lo/\fa<0 then (k:Int) else fa) (Pg.withF f lo l):=by
    rw[O,H];simp only[if_true];have:(fa=-1)<->(fa<0):=by omega
    simp only[this]
   have x:-1<=(if l<lo/\fa<0 then (k:Int) else fa):=by split<;>omega
   have i:((k+n=first/\(m2=10\/(m2=9/\∀c r,s.data.toList.drop (k+n)=c::r->c≠94)))\/(first<k+n/\((m2=11/\∀c r,s.data.toList.drop (k+n)=c::r->c≠45)\/m2=13))):=by
    right;refine⟨?_,K⟩;rcases a with ⟨h,_⟩|⟨h,_⟩<;>omega
   rcases ih (k+n) _ (Pg.withF f lo l) m2 R (by omega) L x i with ⟨j,F,FA,g1,g2,S,T,U,b',V⟩|⟨g1,g2⟩
   ·left;refine⟨j,F,FA,by omega,g2,by rw[t,S],T,λv Z=>?_,b',?_⟩
    ·rcases v with _|v
     ·omega
     rw[<-hd,p];exact U v (by omega)
    rw[<-hd,show j+1-k=n+(j+1-(k+n)) by omega,RO,Ua _ _ _ _ _ _ A];exact V
   right;refine⟨by rw[t];exact g1,?_⟩;have N:s.data.toList.drop k=(s.data.toList.drop k).take n++s.data.toList.drop (k+n):=by rw[<-YV,List.take_append_drop]
   have y:((s.data.toList.drop k).take n).length=n:=by rw[List.length_take];simp;omega
   rw[t,<-g2,<-hd];rw[N,Ub _ _ _ _ _ _ _ A,y]
  right;rw[O,h1];refine⟨rfl,?_⟩;rw[<-hd];simp only[h2];exact h3
theorem Qx (s:ByteArray) (i:Nat) (t:List UInt8) (m b o:Int) (J:m=0\/m=1) (h:s.data.toList.drop i=91::t):
  (∃(n:Nat) (F:N_) (H:Int),i+2<=n/\n<=s.size/\Pg.readSet (Y7 s) s.size i=⟨(n:Int),true,F,H⟩/\Rf.set t i=some (n,H,F)/\-1<=H/\∃b',X3 m b o ((s.data.toList.drop i).take (n-i))=some (1,b')) \/
  ((Pg.readSet (Y7 s) s.size i).ok=false/\Rf.formFrom m b o i (s.data.toList.drop i)=(Pg.readSet (Y7 s) s.size i).n):=by
 have A:=XD h;have w:Rf.read m b o ((91:UInt8).toNat:Int)=⟨true,9,b,o⟩:=by rcases J with rfl|rfl<;>rfl
 have a:s.data.toList.drop (i+1)=t:=by rw[<-YV,h];rfl
 by_cases d:∃r,t=94::r
 ·obtain⟨r,rfl⟩:=d;have y:=XD a;have l:s.data.toList.drop (i+2)=r:=by rw[show i+2=i+1+1 by omega,<-YV,a];rfl
  have x:Y7 s ((i:Int)+1)=94:=by rw[JK h];rfl
  have p:Rf.read 9 b o ((94:UInt8).toNat:Int)=⟨true,10,b,o⟩:=rfl;have v:r.length=s.size-(i+2):=by rw[<-l];simp
  have g:Pg.readSet (Y7 s) s.size i=⟨(Pg.setLoop (Y7 s) s.size ((i+2:Nat):Int) (s.size+1) ((i+2:Nat):Int) (-1) (λ_=>false)).n,(Pg.setLoop (Y7 s) s.size ((i+2:Nat):Int) (s.size+1) ((i+2:Nat):Int) (-1) (λ_=>false)).ok,λk=>!(Pg.setLoop (Y7 s) s.size ((i+2:Nat):Int) (s.size+1) ((i+2:Nat):Int) (-1) (λ_=>false)).f k,(Pg.setLoop (Y7 s) s.size ((i+2:Nat):Int) (s.size+1) ((i+2:Nat):Int) (-1) (λ_=>false)).fa⟩:=by
   rw[Pg.readSet,if_pos x];rfl
  rcases NV s (i+2) o (s.size+1) (i+2) (-1) (λ_=>false) 10 b (by omega) (by omega) (by omega) (Or.inl ⟨rfl,Or.inl rfl⟩)with ⟨j,F,H,g1,g2,g3,g4,g5,b',g6⟩|⟨g1,g2⟩
  ·left;refine⟨j+1,λk=>!F k,H,by omega,by omega,by rw[g,g3];rfl,?_,g4,b',?_⟩
   ·have:=g5 (r.length+1) (by omega);rw[l]at this;simp only[Rf.set,if_true,this,Option.map_some];simp
   rw[show j+1-i=2+(j+1-(i+2)) by omega,RO,h];show X3 m b o (91::94::((s.data.toList.drop (i+2)).take (j+1-(i+2))))=_;rw[YA _ w rfl rfl,YA _ p rfl rfl];exact g6
  right;refine⟨by rw[g];exact g1,?_⟩;rw[h,Xc _ w rfl,Xc _ p rfl,g];simp only[<-g2,l]
 have x:Y7 s ((i:Int)+1)≠94:=by
  rw[JK h];rcases t with _|⟨c,r⟩
  ·simp[at_]
  simp only[at_,List.getElem?_cons_succ,List.getElem?_cons_zero];intro e;exact d ⟨r,by rw[show c=94 from UInt8.toNat_inj.1 (by simpa using (by omega:c.toNat=94))]⟩
 have g:Pg.readSet (Y7 s) s.size i=Pg.setLoop (Y7 s) s.size ((i+1:Nat):Int) (s.size+1) ((i+1:Nat):Int) (-1) (λ_=>false):=by
  rw[Pg.readSet,if_neg x];rfl
 have u:∀c r,s.data.toList.drop (i+1)=c::r->c≠94:=by
  intro c r z e;exact d ⟨r,by rw[<-a,z,e]⟩
 rcases NV s (i+1) o (s.size+1) (i+1) (-1) (λ_=>false) 9 b (by omega) (by omega) (by omega) (Or.inl ⟨rfl,Or.inr ⟨rfl,u⟩⟩)with ⟨j,F,H,g1,g2,g3,g4,g5,b',g6⟩|⟨g1,g2⟩
 ·left;refine⟨j+1,F,H,by omega,by omega,by rw[g,g3];rfl,?_,g4,b',?_⟩
  ·rcases t with _|⟨c,r⟩
   ·rw[a]at g5;have:=g5 (s.size+1) (by omega);rw[Mn]at this;cases this
   have v:(c::r).length=s.size-(i+1):=by rw[<-a];simp
   have:=g5 (r.length+2) (by simp at v;omega);rw[a]at this;have q:=u c r a;simp only[Rf.set,if_neg q,this,Option.map_some];simp
  rw[show j+1-i=1+(j+1-(i+1)) by omega,RO,h];show X3 m b o (91::((s.data.toList.drop (i+1)).take (j+1-(i+1))))=_;rw[YA _ w rfl rfl];exact g6
 right;refine⟨by rw[g];exact g1,?_⟩;rw[h,Xc _ w rfl,g,<-g2,a]
def Xd (kd:Int):Int:=if Pg.endsPiece kd then 1 else 0
def L9 (s:ByteArray) (k:Nat) (m b op kd:Int):Prop:=
 ∃(n:Nat) (F:Nat->Bool) (mo fa b':Int),1<=n/\k+n<=s.size/\Pg.readPart (Y7 s) s.size k kd=⟨((k+n:Nat):Int),true,F,mo,fa⟩ /\
  Rf.formFrom m b op k (s.data.toList.drop k)=Rf.formFrom (Xd kd) b' (Pg.opens kd op) (k+n) (s.data.toList.drop (k+n)) /\
  (op<=6->Rf.deepFrom m b op k (s.data.toList.drop k)=if 6<Pg.opens kd op then (k:Int) else Rf.deepFrom (Xd kd) b' (Pg.opens kd op) (k+n) (s.data.toList.drop (k+n))) /\
  -1<=fa /\
  (∃c,∀v,Rf.valueFrom s.data.toList (v+c) k=if fa=-1 then Rf.valueFrom s.data.toList v (k+n) else some fa) /\
  (∃c,∀v,Rf.emptyFrom s.data.toList (v+c) k=if kd=1/\Rf.cntTo F 256=0 then some (k:Int) else Rf.emptyFrom s.data.toList v (k+n))
theorem WF {m b op z:Int} (H:k+n<=s.size) (y:X3 m b op ((s.data.toList.drop k).take n)=some (z,b')):
  Rf.formFrom m b op k (s.data.toList.drop k)=Rf.formFrom z b' op (k+n) (s.data.toList.drop (k+n))/\(op<=6->Rf.deepFrom m b op k (s.data.toList.drop k)=if 6<op then (k:Int) else Rf.deepFrom z b' op (k+n) (s.data.toList.drop (k+n))):=by
 have c:s.data.toList.drop k=(s.data.toList.drop k).take n++s.data.toList.drop (k+n):=by rw[<-YV,List.take_append_drop]
 have a:((s.data.toList.drop k).take n).length=n:=by rw[List.length_take];simp;omega
 constructor
 ·have:=Ub _ _ _ _ _ k (s.data.toList.drop (k+n)) y;rw[a,<-c]at this;exact this
 intro d;have:=OG d _ _ _ _ _ k (s.data.toList.drop (k+n)) y;rw[a,<-c]at this;rw[g_];exact this
theorem Yv {c d:UInt8} (h:c≠d):(c.toNat:Int)≠(d.toNat:Int):=λe=>h (UInt8.toNat_inj.1 (by omega))
theorem JO (v:Int) (h0:0<=v) (h1:v<256):Rf.cntTo (Pg.withF (λ_=>false) v v) 256≠0:=by
 obtain⟨n,rfl⟩:=ZA h0;have:∀(f:N_) (k:Nat),f k=true->∀n,k<n->0<Rf.cntTo f n:=by
  intro f k a n
  induction n with
  |zero=>intro h;omega
  |succ n ih=>
   intro h;unfold Rf.cntTo;by_cases e:k=n
   ·subst e;simp[a]
   have:=ih (by omega);omega
 have:=this (Pg.withF (λ_=>false) (n:Int) (n:Int)) n (by simp[Pg.withF]) 256 (by omega);omega
theorem Du:Rf.cntTo (λk=>!(Pg.withF (λ_=>false) 10 10 k)) 256≠0:=by decide +kernel
theorem WH {l:List UInt8}{c:UInt8} (y:l.drop k=c::r) (h1:c≠92) (h2:c≠91) (h3:c≠123) (v:Nat):Rf.valueFrom l (v+1) k=Rf.valueFrom l v (k+1):=by
 rw[Rf.valueFrom,y];simp only[if_neg h1,if_neg h2,if_neg h3]
theorem Xj {l:List UInt8}{c:UInt8} (y:l.drop k=c::r) (h1:c≠92) (h2:c≠91) (v:Nat):Rf.emptyFrom l (v+1) k=Rf.emptyFrom l v (k+1):=by
 rw[Rf.emptyFrom,y];simp only[if_neg h1,if_neg h2]
theorem D3 (s:ByteArray) (k:Nat) (t:List UInt8) (m b op:Int) (z:m=0\/m=1) (y:s.data.toList.drop k=91::t):
  L9 s k m b op 1\/((Pg.readPart (Y7 s) s.size k 1).ok=false/\Rf.formFrom m b op k (s.data.toList.drop k)=(Pg.readPart (Y7 s) s.size k 1).n):=by
 have i:Y7 s (k:Int)=91:=by rw[SO y];rfl
 have c:Pg.readPart (Y7 s) s.size k 1=⟨(Pg.readSet (Y7 s) s.size k).n,(Pg.readSet (Y7 s) s.size k).ok,(Pg.readSet (Y7 s) s.size k).f,0,(Pg.readSet (Y7 s) s.size k).fa⟩:=by
  rw[Pg.readPart,if_pos rfl,Pg.readPlace,if_pos i]
 rcases Qx s k t m b op z y with ⟨n,F,a,h1,h2,h3,d,g,b',h⟩|⟨h1,h2⟩
 ·left;obtain⟨g1,g2⟩:=WF (n:=n-k) (by omega) h;rw[show k+(n-k)=n by omega]at g1 g2;refine⟨n-k,F,0,a,b',by omega,by omega,?_,?_,?_,g,⟨1,λv=>?_⟩,⟨1,λv=>?_⟩⟩
  ·rw[c,h3,show k+(n-k)=n by omega]
  ·rw[show k+(n-k)=n by omega];exact g1
  ·rw[show k+(n-k)=n by omega];exact g2
  ·rw[show k+(n-k)=n by omega,Rf.valueFrom,y];simp only[d];by_cases e:a=-1
   ·subst e;simp
   simp[e,show 0<=a by omega]
  rw[show k+(n-k)=n by omega,Rf.emptyFrom,y];simp[d]
 right;exact⟨by rw[c];exact h1,by rw[c];exact h2⟩
theorem D2 (s:ByteArray) (k:Nat) (t:List UInt8) (m b op:Int) (z:m=0\/m=1) (y:s.data.toList.drop k=92::t):
  L9 s k m b op 1\/((Pg.readPart (Y7 s) s.size k 1).ok=false/\Rf.formFrom m b op k (s.data.toList.drop k)=(Pg.readPart (Y7 s) s.size k 1).n):=by
 have d:Y7 s (k:Int)=92:=by rw[SO y];rfl
 have c:Pg.readPart (Y7 s) s.size k 1=⟨(Pg.readEscape (Y7 s) k).n,(Pg.readEscape (Y7 s) k).ok,Pg.withF (λ_=>false) (Pg.readEscape (Y7 s) k).v (Pg.readEscape (Y7 s) k).v,0,-1⟩:=by
  rw[Pg.readPart,if_pos rfl,Pg.readPlace,if_neg (by rw[d];decide),if_neg (by rw[d];decide),if_pos d]
 have h2:Rf.read m b op ((92:UInt8).toNat:Int)=⟨true,2,1,op⟩:=by rcases z with rfl|rfl<;>rfl
 rcases Sr s k t y with ⟨n,v,h1,h3,f,h⟩|⟨n,h1,h3,f⟩
 ·left;have g:t.length+1=s.size-k:=by
   have:(s.data.toList.drop k).length=s.size-k:=by simp
   rw[y]at this;simpa using this
  have e:X3 m b op ((s.data.toList.drop k).take (n+1))=some (1,1):=by
   rw[y,ZK,YA _ h2 rfl rfl];exact h 1 op
  have a:=Rf.one_bd h3;have i:=XD y;obtain⟨g1,g2⟩:=WF (n:=n+1) (by omega) e;refine⟨n+1,Pg.withF (λ_=>false) v v,0,-1,1,by omega,by omega,by rw[c,h1],g1,g2,by omega,⟨1,λv'=>?_⟩,⟨1,λv'=>?_⟩⟩
  ·rw[Rf.valueFrom,y];simp only[h3];simp
  rw[Rf.emptyFrom,y];simp only[h3];simp[JO v a.1 a.2.1]
 right;refine⟨by rw[c];exact h1,?_⟩;rw[c,y,Xc _ h2 rfl,f 1 op];exact h3.symm
theorem Uw (s:ByteArray) (k:Nat) (c:UInt8) (r:List UInt8) (m b op kd:Int) (F:N_) (x:Rf.RS) (y:s.data.toList.drop k=c::r) (J:c≠92) (H:c≠91) (z:c≠123)
  (hx:Rf.read m b op c.toNat=x) (aa:x.ok=true) (Y:x.m=Xd kd) (Z:x.o=Pg.opens kd op) (hp:Pg.readPart (Y7 s) s.size k kd=⟨(k:Int)+1,true,F,0,-1⟩) (hc:¬(kd=1/\Rf.cntTo F 256=0)):L9 s k m b op kd:=by
 have d:=XD y;have a:s.data.toList.drop (k+1)=r:=by rw[<-YV,y];rfl
 refine⟨1,F,0,-1,x.bk,by omega,by omega,by rw[hp];rfl,?_,λ_=>?_,by omega,⟨1,λv=>?_⟩,⟨1,λv=>?_⟩⟩
 ·rw[y,Xc x hx aa,Y,Z,a]
 ·rw[y,Rf.deepFrom,hx,Y,Z,a]
 ·rw[WH y J H z];simp
 rw[Xj y J H,if_neg hc]
theorem Jf (b o c:Int):Rf.read 5 b o c=⟨Rf.digit c,if Rf.digit c then 6 else 5,b,o⟩:=by simp[Rf.read,Rf.to]
theorem DX (b o:Int):Rf.read 6 b o 44=⟨true,7,b,o⟩:=by simp[Rf.read]
theorem Fp (b o c:Int) (h:c≠44):Rf.read 6 b o c=⟨c==125,if (c==125)=true then 1 else 6,b,o⟩:=by simp only[Rf.read,Rf.to,if_neg h];rfl
theorem LP (b o c:Int):Rf.read 7 b o c=⟨Rf.digit c,if Rf.digit c then 8 else 7,b,o⟩:=by simp[Rf.read,Rf.to]
theorem Fq (b o c:Int):Rf.read 8 b o c=⟨c==125,if (c==125)=true then 1 else 8,b,o⟩:=by simp only[Rf.read,Rf.to];rfl
theorem RZ (c:Int) (h:¬Pg.digitValue c<0):Pg.digitValue c=c-48/\48<=c/\c<=57:=by
 unfold Pg.digitValue at h ⊢;split
 ·rename_i h1;exact⟨rfl,h1.1,h1.2⟩
 rename_i h1;rw[if_neg h1]at h;omega
def Dl (t:List UInt8) (n:Nat) (mo le:Int):Prop:=
 (∃x r,t=x::125::r/\n=3/\48<=(x.toNat:Int)/\(x.toNat:Int)<=57/\mo=(x.toNat:Int)-48/\le=(x.toNat:Int)-48) \/
 (∃x z r,t=x::44::z::125::r/\n=5/\48<=(x.toNat:Int)/\(x.toNat:Int)<=57/\48<=(z.toNat:Int)/\(z.toNat:Int)<=57/\mo=(z.toNat:Int)-48/\le=(x.toNat:Int)-48)
theorem PJ (s:ByteArray) (k:Nat) (t:List UInt8) (b o:Int) (Y:s.data.toList.drop k=123::t):
  (∃(n:Nat) (mo le:Int),Pg.readCount (Y7 s) k=⟨mo,((k+n:Nat):Int),true⟩/\Pg.digitValue (Y7 s ((k:Int)+1))=le/\Dl t n mo le/\X3 1 b o ((123::t).take n)=some (1,b)) \/
  ((Pg.readCount (Y7 s) k).ok=false/\Rf.formFrom 1 b o k (123::t)=(Pg.readCount (Y7 s) k).n):=by
 have F:=JK Y;have e2:=Db Y;have G:=Dc Y;have H:=Ci Y;have I:(k:Int)+2+1=(k:Int)+3:=by omega
 have J:(k:Int)+2+2=(k:Int)+4:=by omega
 have B:Rf.read 1 b o ((123:UInt8).toNat:Int)=⟨true,5,b,o⟩:=rfl;rcases t with _|⟨x,t⟩
 ·right;have A:Pg.digitValue (Y7 s ((k:Int)+1))<0:=by rw[F];simp[at_,Pg.digitValue]
  rw[Pg.readCount,if_pos A];refine⟨rfl,?_⟩;rw[Xc _ B rfl,TP _ _ _ _ (by simp)];first|(simp;done)|(simp;omega)|omega
 have h:Y7 s ((k:Int)+1)=x.toNat:=by rw[F];rfl
 by_cases A:Pg.digitValue x.toNat<0
 ·right;have e:Rf.digit x.toNat=false:=by rw[So];simp;omega
  rw[Pg.readCount,h,if_pos A];refine⟨rfl,?_⟩;rw[Xc _ B rfl,Ul _ (Jf b o _) e];first|(simp;done)|(simp;omega)|omega
 have e:Rf.digit x.toNat=true:=by rw[So];simp;omega
 obtain⟨x1,x2,x3⟩:=RZ _ A;have C:Pg.readCount (Y7 s) k=Pg.readMost (Y7 s) ((k:Int)+2) ((x.toNat:Int)-48):=by rw[Pg.readCount,h,if_neg A,x1]
 have d:∀r,Rf.formFrom 1 b o k (123::x::r)=Rf.formFrom 6 b o (k+2) r:=λr=>by
  rw[Xc _ B rfl,Xc _ (Jf b o _) e];simp only[e,if_true]
 have w:∀r,X3 1 b o (123::x::r)=X3 6 b o r:=λr=>by
  rw[YA _ B rfl rfl,YA _ (Jf b o _) e rfl];simp only[e,if_true]
 rcases t with _|⟨y,t⟩
 ·right;have K:Y7 s ((k:Int)+2)=-1:=by rw[e2];rfl
  rw[C,Pg.readMost,K];refine⟨rfl,?_⟩;rw[d,TP _ _ _ _ (by simp)];first|(simp;done)|(simp;omega)|omega
 have m:Y7 s ((k:Int)+2)=y.toNat:=by rw[e2];rfl
 by_cases f:y=125
 ·subst f;left;refine⟨3,(x.toNat:Int)-48,(x.toNat:Int)-48,?_,by rw[h,x1],Or.inl ⟨x,t,rfl,rfl,x2,x3,rfl,rfl⟩,?_⟩
  ·rw[C,Pg.readMost,m,if_pos (by decide),show(k:Int)+2+1=((k+3:Nat):Int) by omega]
  show X3 1 b o [123,x,125]=_;rw[w,YA _ (Fp b o _ (by decide)) (by rfl) rfl];rfl
 have j:=Yv f;have a:(y.toNat:Int)≠125:=j;by_cases l:y=44
 ·subst l;have q:Rf.read 6 b o ((44:UInt8).toNat:Int)=⟨true,7,b,o⟩:=DX b o;have u:Pg.readCount (Y7 s) k=if Pg.digitValue (Y7 s ((k:Int)+3))<0 then ⟨0,(k:Int)+3,false⟩ else if Y7 s ((k:Int)+4)=125 then ⟨Pg.digitValue (Y7 s ((k:Int)+3)),(k:Int)+2+3,true⟩ else ⟨0,(k:Int)+4,false⟩:=by
   rw[C,Pg.readMost,m,if_neg (by decide),if_pos (by decide),I,J]
  rcases t with _|⟨z,t⟩
  ·right;have hz:Pg.digitValue (Y7 s ((k:Int)+3))<0:=by rw[G];simp[at_,Pg.digitValue]
   rw[u,if_pos hz];refine⟨rfl,?_⟩;rw[d,Xc _ q rfl,TP _ _ _ _ (by simp)];first|(simp;done)|(simp;omega)|omega
  have i:Y7 s ((k:Int)+3)=z.toNat:=by rw[G];rfl
  by_cases hz:Pg.digitValue z.toNat<0
  ·right;have c:Rf.digit z.toNat=false:=by rw[So];simp;omega
   rw[u,i,if_pos hz];refine⟨rfl,?_⟩;rw[d,Xc _ q rfl,Ul _ (LP b o _) c];first|(simp;done)|(simp;omega)|omega
  have c:Rf.digit z.toNat=true:=by rw[So];simp;omega
  obtain⟨L,M,N⟩:=RZ _ hz;rcases t with _|⟨E,t⟩
  ·right;have D:Y7 s ((k:Int)+4)=-1:=by rw[H];rfl
   rw[u,i,if_neg hz,D,if_neg (by decide)];refine⟨rfl,?_⟩;rw[d,Xc _ q rfl,Xc _ (LP b o _) c];simp only[c,if_true];rw[TP _ _ _ _ (by simp)];first|(simp;done)|(simp;omega)|omega
  have p:Y7 s ((k:Int)+4)=E.toNat:=by rw[H];rfl
  by_cases D:E=125
  ·subst D;left;refine⟨5,(z.toNat:Int)-48,(x.toNat:Int)-48,?_,by rw[h,x1],Or.inr ⟨x,z,t,rfl,rfl,x2,x3,M,N,rfl,rfl⟩,?_⟩
   ·rw[u,i,if_neg hz,p,if_pos (by decide),L,show(k:Int)+2+3=((k+5:Nat):Int) by omega]
   show X3 1 b o [123,x,44,z,125]=_;rw[w,YA _ q rfl rfl,YA _ (LP b o _) c rfl];simp only[c,if_true];rw[YA _ (Fq b o _) (by rfl) rfl];rfl
  right;have v:(E.toNat:Int)≠125:=Yv D;rw[u,i,if_neg hz,p,if_neg v];refine⟨rfl,?_⟩;rw[d,Xc _ q rfl,Xc _ (LP b o _) c];simp only[c,if_true];rw[Ul _ (Fq b o _) (by simpa using v)];first|(simp;done)|(simp;omega)|omega
 right;have g:(y.toNat:Int)≠44:=Yv l;rw[C,Pg.readMost,m,if_neg a,if_neg g];refine⟨rfl,?_⟩;rw[d,Ul _ (Fp b o _ g) (by simpa using a)];first|(simp;done)|(simp;omega)|omega
theorem VW {x:UInt8} (h0:48<=(x.toNat:Int)) (h1:(x.toNat:Int)<=57):x≠92/\x≠91/\x≠123:=by
 refine⟨?_,?_,?_⟩<;>(intro e;subst e;revert h0 h1;decide)
theorem Hw (s:ByteArray) (k:Nat) (t:List UInt8) (b op:Int) (H:s.data.toList.drop k=123::t):
  L9 s k 1 b op 8\/((Pg.readPart (Y7 s) s.size k 8).ok=false/\Rf.formFrom 1 b op k (s.data.toList.drop k)=(Pg.readPart (Y7 s) s.size k 8).n):=by
 have m:Pg.readPart (Y7 s) s.size k 8=⟨(Pg.readCount (Y7 s) k).n,(Pg.readCount (Y7 s) k).ok,λ_=>false,(Pg.readCount (Y7 s) k).v,Pg.countFalls (Y7 s) k⟩:=rfl;have c:(s.data.toList.drop k).length=s.size-k:=by simp
 rw[H]at c;rcases PJ s k t b op H with ⟨n,mo,le,h1,h2,h3,y⟩|⟨h1,h2⟩
 ·left;have C:=XD H;have o:1<=n/\k+n<=s.size:=by
   rcases h3 with ⟨x,r,rfl,rfl,_⟩|⟨x,z,r,rfl,rfl,_⟩<;>(simp at c;omega)
  have B:Pg.countFalls (Y7 s) k=if mo<le then (k:Int) else -1:=by rw[Pg.countFalls,h1,h2]
  rw[<-H]at y;obtain⟨g1,g2⟩:=WF o.2 y;refine⟨n,λ_=>false,mo,if mo<le then (k:Int) else -1,b,o.1,o.2,by rw[m,h1,B],g1,g2,by split<;>omega,?_,?_⟩
  ·rcases h3 with ⟨x,r,rfl,rfl,x1,x2,rfl,rfl⟩|⟨x,z,r,rfl,rfl,x1,x2,u,w,rfl,rfl⟩
   ·have e:s.data.toList.drop (k+1)=x::125::r:=by rw[<-YV,H];rfl
    have f:s.data.toList.drop (k+2)=125::r:=by rw[<-YV,H];rfl
    obtain⟨g,h,i⟩:=VW x1 x2;refine⟨3,λv=>?_⟩;have a:(if (x.toNat:Int)-48<(x.toNat:Int)-48 then (k:Int) else -1)=-1:=g_;simp only[a,if_true];rw[show v+3=v+2+1 by omega,Rf.valueFrom,H];simp only;rw[if_neg (by decide),if_neg (by decide),if_pos trivial,if_neg (by decide)];rw[show v+2=v+1+1 by omega,WH e g h i,WH f (by decide) (by decide) (by decide)]
   have e:s.data.toList.drop (k+1)=x::44::z::125::r:=by rw[<-YV,H];rfl
   have f:s.data.toList.drop (k+2)=44::z::125::r:=by rw[<-YV,H];rfl
   have j:s.data.toList.drop (k+3)=z::125::r:=by rw[<-YV,H];rfl
   have l:s.data.toList.drop (k+4)=125::r:=by rw[<-YV,H];rfl
   obtain⟨g,h,i⟩:=VW x1 x2;obtain⟨p,q,A⟩:=VW u w;refine⟨5,λv=>?_⟩;rw[show v+5=v+4+1 by omega,Rf.valueFrom,H];simp only;rw[if_neg (by decide),if_neg (by decide),if_pos trivial,if_pos trivial];by_cases d:z.toNat<x.toNat
   ·have a:(if (z.toNat:Int)-48<(x.toNat:Int)-48 then (k:Int) else -1)=k:=p_;rw[if_pos d,a,g_]
   have a:(if (z.toNat:Int)-48<(x.toNat:Int)-48 then (k:Int) else -1)=-1:=g_;rw[if_neg d];simp only[a,if_true];rw[show v+4=v+3+1 by omega,WH e g h i,show v+3=v+2+1 by omega,WH f (by decide) (by decide) (by decide),show v+2=v+1+1 by omega,WH j p q A,WH l (by decide) (by decide) (by decide)]
  rcases h3 with ⟨x,r,rfl,rfl,x1,x2,rfl,rfl⟩|⟨x,z,r,rfl,rfl,x1,x2,u,w,rfl,rfl⟩
  ·have e:s.data.toList.drop (k+1)=x::125::r:=by rw[<-YV,H];rfl
   have f:s.data.toList.drop (k+2)=125::r:=by rw[<-YV,H];rfl
   obtain⟨g,h,i⟩:=VW x1 x2;refine⟨3,λv=>?_⟩;rw[g_,show v+3=v+2+1 by omega,Xj H (by decide) (by decide),show v+2=v+1+1 by omega,Xj e g h,Xj f (by decide) (by decide)]
  have e:s.data.toList.drop (k+1)=x::44::z::125::r:=by rw[<-YV,H];rfl
  have f:s.data.toList.drop (k+2)=44::z::125::r:=by rw[<-YV,H];rfl
  have j:s.data.toList.drop (k+3)=z::125::r:=by rw[<-YV,H];rfl
  have l:s.data.toList.drop (k+4)=125::r:=by rw[<-YV,H];rfl
  obtain⟨g,h,i⟩:=VW x1 x2;obtain⟨p,q,A⟩:=VW u w;refine⟨5,λv=>?_⟩;rw[g_,show v+5=v+4+1 by omega,Xj H (by decide) (by decide),show v+4=v+3+1 by omega,Xj e g h,show v+3=v+2+1 by omega,Xj f (by decide) (by decide),show v+2=v+1+1 by omega,Xj j p q,Xj l (by decide) (by decide)]
 right;refine⟨by rw[m];exact h1,?_⟩;rw[m,H];exact h2
theorem Fr {m:Int} (b o c:Int) (y:m=0\/m=1):Rf.read m b o c=Rf.outside m b o c:=by
 rcases y with rfl|rfl<;>simp[Rf.read,Rf.rest]
def BJ (s:ByteArray) (k:Nat) (m b op before:Int):Prop:=
 (Pg.canStand (Pg.kindOf (Y7 s k)) before op=false/\Rf.formFrom m b op k (s.data.toList.drop k)=(k:Int)) \/
 (Pg.canStand (Pg.kindOf (Y7 s k)) before op=true/\(L9 s k m b op (Pg.kindOf (Y7 s k)) \/
  ((Pg.readPart (Y7 s) s.size k (Pg.kindOf (Y7 s k))).ok=false/\Rf.formFrom m b op k (s.data.toList.drop k)=(Pg.readPart (Y7 s) s.size k (Pg.kindOf (Y7 s k))).n)))
theorem Ct (s:ByteArray) (k:Nat) (c:UInt8) (r:List UInt8) (m b op Y:Int) (Z:s.data.toList.drop k=c::r) (aa:m=Xd Y):BJ s k m b op Y:=by
 have L:m=0\/m=1:=by rw[aa,Xd];split<;>simp
 have H:Y7 s (k:Int)=c.toNat:=by rw[SO Z];rfl
 have a:Rf.read m b op c.toNat=Rf.outside m b op c.toNat:=Fr _ _ _ L;have f:∀kd:Int,kd≠1->kd≠8->Pg.readPart (Y7 s) s.size k kd=⟨(k:Int)+1,true,λ_=>false,0,-1⟩:=λkd h1 T=>by rw[Pg.readPart,if_neg h1,if_neg T]
 unfold BJ;rw[H];by_cases g:c=91
 ·subst g;right;exact⟨rfl,D3 s k r m b op L Z⟩
 by_cases i:c=92
 ·subst i;right;exact⟨rfl,D2 s k r m b op L Z⟩
 by_cases d:c=123
 ·subst d;cases hep:Pg.endsPiece Y
  ·left;have v:m=0:=by rw[aa,Xd,hep];rfl
   subst v;refine⟨?_,?_⟩
   ·show Pg.canStand 8 Y op=false;simp[Pg.canStand,Pg.isSuffix,hep]
   rw[Z,Ul _ a rfl]
  right;have w:m=1:=by rw[aa,Xd,hep];rfl
  subst w;refine⟨?_,Hw s k r b op Z⟩;show Pg.canStand 8 Y op=true;simp[Pg.canStand,Pg.isSuffix,hep]
 by_cases z:c=40
 ·subst z;right;refine⟨rfl,Or.inl (Uw s k 40 r m b op 2 (λ_=>false) ⟨true,0,b,op+1⟩ Z i g d ?_ rfl rfl rfl (f 2 (by decide) (by decide)) (by omega))⟩;rw[a];rfl
 by_cases A:c=41
 ·subst A;by_cases M:0<op
  ·right;refine⟨?_,Or.inl (Uw s k 41 r m b op 3 (λ_=>false) ⟨true,1,b,op-1⟩ Z i g d ?_ rfl rfl rfl (f 3 (by decide) (by decide)) (by omega))⟩
   ·show Pg.canStand 3 Y op=true;simp[Pg.canStand,M]
   rw[a];show Rf.to m b (op-1) (decide (1<=op)) 1=_;have:decide (1<=op)=true:=by simp;omega
   rw[this];rfl
  left;refine⟨?_,?_⟩
  ·show Pg.canStand 3 Y op=false;simp[Pg.canStand];omega
  rw[Z,Ul (Rf.to m b (op-1) (decide (1<=op)) 1) (by rw[a];rfl) (by simp[Rf.to];omega)]
 by_cases p:c=124
 ·subst p;right;refine⟨rfl,Or.inl (Uw s k 124 r m b op 4 (λ_=>false) ⟨true,0,b,op⟩ Z i g d ?_ rfl rfl rfl (f 4 (by decide) (by decide)) (by omega))⟩;rw[a];rfl
 by_cases l:c=42\/c=43\/c=63
 ·have o:∀kd:Int,Pg.kindOf c.toNat=kd->Pg.isSuffix kd=true->kd≠0->kd≠3->kd≠1->kd≠8->Pg.opens kd op=op->Xd kd=1->Rf.outside m b op c.toNat=⟨m==1,m,b,op⟩ ->
    (Pg.canStand (Pg.kindOf c.toNat) Y op=false/\Rf.formFrom m b op k (s.data.toList.drop k)=(k:Int))\/(Pg.canStand (Pg.kindOf c.toNat) Y op=true/\(L9 s k m b op (Pg.kindOf c.toNat)\/((Pg.readPart (Y7 s) s.size k (Pg.kindOf c.toNat)).ok=false/\Rf.formFrom m b op k (s.data.toList.drop k)=(Pg.readPart (Y7 s) s.size k (Pg.kindOf c.toNat)).n))):=by
   intro kd K N n0 U R V D x j;rw[K];have C:Pg.canStand kd Y op=Pg.endsPiece Y:=by simp[Pg.canStand,n0,U,N]
   cases hep:Pg.endsPiece Y
   ·left;have v:m=0:=by rw[aa,Xd,hep];rfl
    subst v;exact⟨by rw[C,hep],by rw[Z,Ul _ (by rw[a,j]) rfl]⟩
   right;have w:m=1:=by rw[aa,Xd,hep];rfl
   subst w;exact⟨by rw[C,hep],Or.inl (Uw s k c r 1 b op kd (λ_=>false) ⟨true,1,b,op⟩ Z i g d (by rw[a,j];rfl) rfl x.symm D.symm (f kd R V) (λh=>R h.1))⟩
  rcases l with rfl|rfl|rfl
  ·exact o 5 rfl rfl (by decide) (by decide) (by decide) (by decide) rfl rfl rfl
  ·exact o 6 rfl rfl (by decide) (by decide) (by decide) (by decide) rfl rfl rfl
  exact o 7 rfl rfl (by decide) (by decide) (by decide) (by decide) rfl rfl rfl
 by_cases u:c=93\/c=125
 ·left;rcases u with rfl|rfl
  ·exact⟨rfl,by rw[Z,Ul _ a rfl]⟩
  exact⟨rfl,by rw[Z,Ul _ a rfl]⟩
 have y:(c.toNat:Int)≠91:=Yv g;have G:(c.toNat:Int)≠92:=Yv i;have q:(c.toNat:Int)≠123:=Yv d;have E:(c.toNat:Int)≠40:=Yv z;have F:(c.toNat:Int)≠41:=Yv A;have t:(c.toNat:Int)≠124:=Yv p;have O:(c.toNat:Int)≠42:=Yv (λe=>l (Or.inl e));have P:(c.toNat:Int)≠43:=Yv (λe=>l (Or.inr (Or.inl e)));have Q:(c.toNat:Int)≠63:=Yv (λe=>l (Or.inr (Or.inr e)));have W:(c.toNat:Int)≠93:=Yv (λe=>u (Or.inl e));have S:(c.toNat:Int)≠125:=Yv (λe=>u (Or.inr e));have J:Pg.kindOf c.toNat=1:=by
  unfold Pg.kindOf;rw[g_,if_neg E,if_neg F,if_neg t,if_neg O,if_neg P,if_neg Q,if_neg q]
 have j:Rf.outside m b op c.toNat=⟨true,1,b,op⟩:=by
  unfold Rf.outside;rw[if_neg G,if_neg y,if_neg E,if_neg F,if_neg t,g_,if_neg q,g_]
 right;rw[J];refine⟨rfl,Or.inl ?_⟩;by_cases B:(c.toNat:Int)=46
 ·refine Uw s k c r m b op 1 (λk=>!(Pg.withF (λ_=>false) 10 10 k)) ⟨true,1,b,op⟩ Z i g d (by rw[a,j]) rfl rfl rfl ?_ (λh=>Du h.2);rw[Pg.readPart,if_pos rfl,Pg.readPlace,H,if_neg y,if_pos B]
 have I:=QO c;refine Uw s k c r m b op 1 (Pg.withF (λ_=>false) c.toNat c.toNat) ⟨true,1,b,op⟩ Z i g d (by rw[a,j]) rfl rfl rfl ?_ (λh=>JO c.toNat (by omega) I h.2);rw[Pg.readPart,if_pos rfl,Pg.readPlace,H,if_neg y,if_neg B,if_neg G]
theorem OC (g:Int->Int) (len first:Int) (y:∀j,-1<=g j/\g j<256) (z:0<=len):∀(u:Nat) (e fa:Int) (f:N_),0<=e->0<=(Pg.setLoop g len first u e fa f).n:=by
 intro u
 induction u with
 |zero=>intro e fa f h;exact h
 |succ u ih=>
  intro e fa f h;have a:=Pg.readItem_bd g e y;unfold Pg.setLoop;split
  ·split
   ·simp;omega
   split
   ·exact ih _ _ _ (by omega)
   simp;omega
  exact z
theorem KJ (g:Int->Int) (len i kd:Int) (y:∀j,-1<=g j/\g j<256) (z:0<=len) (h:0<=i):0<=(Pg.readPart g len i kd).n:=by
 have a:=Pg.readEscape_bd g i y;unfold Pg.readPart;split
 ·simp only;unfold Pg.readPlace;split
  ·unfold Pg.readSet;split
   ·exact OC g len _ y z _ _ _ _ (by omega)
   exact OC g len _ y z _ _ _ _ (by omega)
  split
  ·simp;omega
  split
  ·simp;omega
  simp;omega
 split
 ·simp only;unfold Pg.readCount Pg.readMost
  repeat' split
  all_goals (simp;omega)
 simp;omega
theorem PW (s:ByteArray):∀(u k:Nat) (Z op b:Int) (Y:List Pg.Pt),s.size<u+k->k<=s.size->0<=op ->
  ((Pg.partsFrom (Y7 s) s.size u Z op k Y).ok=false/\Rf.formFrom (Xd Z) b op k (s.data.toList.drop k)=(Pg.partsFrom (Y7 s) s.size u Z op k Y).n/\0<=(Pg.partsFrom (Y7 s) s.size u Z op k Y).n) \/
  (∃ps,(Pg.partsFrom (Y7 s) s.size u Z op k Y).ok=true/\(Pg.partsFrom (Y7 s) s.size u Z op k Y).ps=Y++ps/\Rf.formFrom (Xd Z) b op k (s.data.toList.drop k)=-1 /\
   (op<=6->Rf.deepFrom (Xd Z) b op k (s.data.toList.drop k)=Pg.tooDeep ps op) /\
   (∃c,∀v,Rf.valueFrom s.data.toList (v+c) k=some (Pg.falling ps))/\(∃c,∀v,Rf.emptyFrom s.data.toList (v+c) k=some (Pg.matchless ps))/\(∀p∈ps,0<=p.pl/\-1<=p.fa)):=by
 intro u
 induction u with
 |zero=>intro k Z op b Y h1 h2;omega
 |succ u ih=>
  intro k Z op b Y P O B;rcases hd:s.data.toList.drop k with _|⟨c,r⟩
  ·have J:k=s.size:=by
    have:s.size<=k:=by simpa using hd
    omega
   have y:¬(k:Int)<(s.size:Int):=by omega
   rw[Pg.partsFrom,if_neg y];have z:Xd Z=0\/Xd Z=1:=by unfold Xd;split<;>simp
   by_cases h0:op=0
   ·right;subst h0;refine⟨[],rfl,by simp,?_,λ_=>rfl,⟨1,λv=>?_⟩,⟨1,λv=>?_⟩,by simp⟩
    ·rw[Rf.formFrom,g_]
    ·rw[Rf.valueFrom,hd];rfl
    rw[Rf.emptyFrom,hd];rfl
   left;refine⟨by simpa using h0,?_,by simp⟩;rw[Rf.formFrom,p_]
  have K:=XD hd;have j:(k:Int)<(s.size:Int):=by omega
  have D:=Ct s k c r (Xd Z) b op Z hd rfl;rw[Pg.partsFrom,if_pos j];unfold BJ at D;rw[hd]at D;rcases D with ⟨h1,h2⟩|⟨h1,h2|⟨h2,h3⟩⟩
  ·left;rw[h1];exact⟨rfl,h2,by simp⟩
  ·obtain⟨n,F,mo,fa,b',L,A,N,a,d,x,⟨t,m⟩,⟨q,i⟩⟩:=h2;rw[h1,N];simp only[if_true];rw[hd]at a d;have l:0<=Pg.opens (Pg.kindOf (Y7 s k)) op:=by
    unfold Pg.opens;split
    ·omega
    split
    ·rename_i h3;rw[h3]at h1;simp[Pg.canStand]at h1;omega
    exact B
   generalize Pg.kindOf (Y7 s k)=kd at *;rcases ih (k+n) kd (Pg.opens kd op) b' (Y++[⟨kd,k,F,0,mo,fa⟩]) (by omega) A l with ⟨g1,g2,w⟩|⟨ps,g1,g2,w,E,⟨g,G⟩,⟨f,H⟩,I⟩
   ·left;exact⟨g1,by rw[a];exact g2,w⟩
   right;refine⟨⟨kd,k,F,0,mo,fa⟩::ps,g1,by rw[g2];simp,by rw[a];exact w,λM=>?_,?_,?_,?_⟩
   ·rw[d M,Pg.tooDeep];by_cases o:6<Pg.opens kd op
    ·rw[if_pos o,if_pos o]
    rw[if_neg o,if_neg o];exact E (by omega)
   ·refine⟨g+t,λv=>?_⟩;rw[show v+(g+t)=(v+g)+t by omega,m,Pg.falling];by_cases e:fa=-1
    ·rw[if_pos e,if_pos e];exact G v
    rw[if_neg e,if_neg e]
   ·refine⟨f+q,λv=>?_⟩;rw[show v+(f+q)=(v+f)+q by omega,i,Pg.matchless];by_cases e:kd=1/\Rf.cntTo F 256=0
    ·rw[if_pos e,if_pos e]
    rw[if_neg e,if_neg e];exact H v
   intro p C;rcases ZR.1 C with h|h
   ·subst h;exact⟨by simp,x⟩
   exact I p h
  left;rw[h1];simp only[if_true];rw[h2];refine⟨rfl,h3,?_⟩;exact KJ _ _ _ _ (Nw s) (by omega) (by omega)
theorem Ut {l:List UInt8}{v:Int} (h:Rf.one l=some (v,n)) (r:List UInt8):Rf.one (l.take n++r)=some (v,n):=by
 unfold Rf.one at h;rcases l with _|⟨c,t⟩
 ·cases h
 simp only at h;by_cases a:c=92
 ·rw[if_pos a]at h;rcases t with _|⟨d,t⟩
  ·cases h
  simp only at h;by_cases b:d=110
  ·rw[if_pos b]at h;simp only[Zp,Prod.mk.injEq]at h;obtain⟨rfl,rfl⟩:=h;simp[Rf.one,a,b]
  rw[if_neg b]at h;by_cases e:d=116
  ·rw[if_pos e]at h;simp only[Zp,Prod.mk.injEq]at h;obtain⟨rfl,rfl⟩:=h;simp[Rf.one,a,e]
  rw[if_neg e]at h;by_cases f:d=120
  ·rw[if_pos f]at h;rcases t with _|⟨x,_|⟨y,t⟩⟩
   ·cases h
   ·cases h
   simp only at h;split at h
   ·rename_i g;simp only[Zp,Prod.mk.injEq]at h;obtain⟨rfl,rfl⟩:=h;rw[ZS]at g;simp[Rf.one,a,f,g.1,g.2]
   cases h
  rw[if_neg f]at h;simp only[Zp,Prod.mk.injEq]at h;obtain⟨rfl,rfl⟩:=h;simp[Rf.one,a,b,e,f]
 rw[if_neg a]at h;simp only[Zp,Prod.mk.injEq]at h;obtain⟨rfl,rfl⟩:=h;simp[Rf.one,a]
theorem PQ:∀(f:Nat) (l:List UInt8) (i:Nat) (fa:Int) (inn:N_) (j:Nat) (Y:Int) (F:N_),Rf.items f l i fa inn=some (j,Y,F) ->
  ∀(r:List UInt8) (f' J:Nat) (H:Int),j-i+1<=f'->∃FA',Rf.items f' (l.take (j-i+1)++r) J H inn=some (J+(j-i),FA',F):=by
 intro f
 induction f with
 |zero=>intro l i fa inn j Y F h;simp[Rf.items]at h
 |succ f ih=>
  intro l i fa inn j Y F h r f' J H C;obtain⟨f',rfl⟩:∃q,f'=q+1:=⟨f'-1,by omega⟩;have z:=Rf.items_ge h;unfold Rf.items at h;rcases l with _|⟨c,t⟩
  ·cases h
  simp only at h;by_cases k:c=93
  ·rw[if_pos k]at h;simp only[Zp,Prod.mk.injEq]at h;obtain⟨rfl,_,rfl⟩:=h;refine⟨H,?_⟩;simp[Rf.items,k]
  rw[if_neg k]at h;rcases ho:Rf.one (c::t)with _|⟨a,n⟩
  ·rw[ho]at h;cases h
  rw[ho]at h;simp only at h;have D:=Rf.one_le ho;have B:=Rf.one_bd ho;rcases hd:(c::t).drop n with _|⟨d,e⟩
  ·rw[hd]at h;cases h
  rw[hd]at h;simp only at h;by_cases p:d=45
  ·rw[if_pos p]at h;rcases ho2:Rf.one e with _|⟨b,n'⟩
   ·rw[ho2]at h;cases h
   rw[ho2]at h;simp only at h;have s:=Rf.items_ge h;have y:=Rf.one_bd ho2;obtain⟨FA',v⟩:=ih _ _ _ _ _ _ _ h r f' (J+n+1+n') (if b<a/\H<0 then (J:Int) else H) (by omega);refine⟨FA',?_⟩;have w:(c::t).take (j-i+1)++r=(c::t).take n++(d::(e.take n'++((e.drop n').take (j-(i+n+1+n')+1)++r))):=by
    rw[show j-i+1=n+(1+(n'+(j-(i+n+1+n')+1))) by omega,List.take_add,hd,show 1+(n'+(j-(i+n+1+n')+1))=(n'+(j-(i+n+1+n')+1))+1 by omega,ZK,List.take_add];simp[Zs]
   have x:((c::t).take n).length=n:=by rw[List.length_take];omega
   have g:∃u,(c::t).take n++(d::(e.take n'++((e.drop n').take (j-(i+n+1+n')+1)++r)))=c::u:=by
    obtain⟨n0,rfl⟩:∃q,n=q+1:=⟨n-1,by omega⟩;exact⟨_,by rw[ZK,Zt]⟩
   obtain⟨u,o⟩:=g;have m:=Ut ho (d::(e.take n'++((e.drop n').take (j-(i+n+1+n')+1)++r)));rw[w,o,Rf.items];simp only[if_neg k];rw[<-o,m];simp only;rw[show((c::t).take n++(d::(e.take n'++((e.drop n').take (j-(i+n+1+n')+1)++r)))).drop n=d::(e.take n'++((e.drop n').take (j-(i+n+1+n')+1)++r)) by
    rw[List.drop_append_of_le_length (by omega),List.drop_of_length_le (by omega)];rfl]
   simp only[if_pos p];rw[Ut ho2];simp only;have A:=Rf.one_le ho2;rw[show(e.take n'++((e.drop n').take (j-(i+n+1+n')+1)++r)).drop n'=(e.drop n').take (j-(i+n+1+n')+1)++r by
    rw[List.drop_append_of_le_length (by rw[List.length_take];omega),List.drop_of_length_le (by rw[List.length_take];omega)];rfl]
   rw[v];congr 2;omega
  rw[if_neg p]at h;have s:=Rf.items_ge h;obtain⟨FA',v⟩:=ih _ _ _ _ _ _ _ h r f' (J+n) H (by omega);refine⟨FA',?_⟩;have w:(c::t).take (j-i+1)++r=(c::t).take n++((d::e).take (j-(i+n)+1)++r):=by
   rw[show j-i+1=n+(j-(i+n)+1) by omega,List.take_add,hd,Zs]
  have x:((c::t).take n).length=n:=by rw[List.length_take];omega
  have g:∃u,(c::t).take n++((d::e).take (j-(i+n)+1)++r)=c::u:=by
   obtain⟨n0,rfl⟩:∃q,n=q+1:=⟨n-1,by omega⟩;exact⟨_,by rw[ZK,Zt]⟩
  obtain⟨u,o⟩:=g;have m:=Ut ho ((d::e).take (j-(i+n)+1)++r);rw[w,o,Rf.items];simp only[if_neg k];rw[<-o,m];simp only;rw[show((c::t).take n++((d::e).take (j-(i+n)+1)++r)).drop n=(d::e).take (j-(i+n)+1)++r by
   rw[List.drop_append_of_le_length (by omega),List.drop_of_length_le (by omega)];rfl]
  rw[ZK,Zt]at v ⊢;simp only[if_neg p];rw[v];congr 2;omega
theorem MA {l:List UInt8}{z:Int} (h:Rf.set l i=some (n,z,F)) (r:List UInt8) (y:Nat):∃FA',Rf.set (l.take (n-i-1)++r) y=some (y+(n-i),FA',F):=by
 have o:=Rf.set_ge h;unfold Rf.set at h;rcases l with _|⟨c,t⟩
 ·cases h
 simp only at h;by_cases e:c=94
 ·rw[if_pos e]at h;rcases hx:Rf.items (t.length+1) t (i+2) (-1) (λ_=>false)with _|⟨a,b,d⟩
  ·rw[hx]at h;cases h
  rw[hx]at h;have m:=Rf.items_ge hx;simp only[Option.map_some,Zp,Prod.mk.injEq]at h;obtain⟨rfl,_,rfl⟩:=h;have f:=Rf.items_lt hx;have j:(c::t).take (a+1-i-1)++r=c::(t.take (a-(i+2)+1)++r):=by
   rw[show a+1-i-1=(a-(i+2)+1)+1 by omega,ZK,Zt]
  have k:a-(i+2)+1<=(t.take (a-(i+2)+1)++r).length+1:=by
   rw[Zl,List.length_take];omega
  obtain⟨FA',g⟩:=PQ _ _ _ _ _ _ _ _ hx r ((t.take (a-(i+2)+1)++r).length+1) (y+2) (-1) k;rw[j,Rf.set];simp only[if_pos e,g,Option.map_some];exact⟨FA',by rw[show y+2+(a-(i+2))+1=y+(a+1-i) by omega]⟩
 rw[if_neg e]at h;rcases hx:Rf.items (t.length+2) (c::t) (i+1) (-1) (λ_=>false)with _|⟨a,b,d⟩
 ·rw[hx]at h;cases h
 rw[hx]at h;have m:=Rf.items_ge hx;simp only[Option.map_some,Zp,Prod.mk.injEq]at h;obtain⟨rfl,_,rfl⟩:=h;have f:=Rf.items_lt hx;have j:(c::t).take (a+1-i-1)++r=c::(t.take (a-(i+1))++r):=by
  rw[show a+1-i-1=(a-(i+1))+1 by omega,ZK,Zt]
 have e2:(c::t).take (a-(i+1)+1)++r=c::(t.take (a-(i+1))++r):=by
  rw[ZK,Zt]
 have k:a-(i+1)+1<=(t.take (a-(i+1))++r).length+2:=by
  simp only[List.length_cons]at f;rw[Zl,List.length_take];omega
 obtain⟨FA',g⟩:=PQ _ _ _ _ _ _ _ _ hx r ((t.take (a-(i+1))++r).length+2) (y+1) (-1) k;rw[e2]at g;rw[j,Rf.set];simp only[if_neg e,g,Option.map_some];exact⟨FA',by rw[show y+1+(a-(i+1))+1=y+(a+1-i) by omega]⟩
structure Tk where
 w:List UInt8
 kd:Int
 mo:Int
def X8 (ts:List Tk):List UInt8:=ts.flatMap (·.w)
theorem X6 (a b:List Tk):X8 (a++b)=X8 a++X8 b:=by simp[X8]
theorem XX (t:Tk) (b:List Tk):X8 (t::b)=t.w++X8 b:=by simp[X8]
def TH (c:UInt8):Prop:=c=92\/c=91\/c=123\/c=40\/c=41\/c=124\/c=42\/c=43\/c=63\/c=93\/c=125
def QG (w:List UInt8):Prop:=
 (∃c,w=[c]/\¬TH c)\/(∃e v,w=92::e/\∀r,Rf.one (92::(e++r))=some (v,e.length+1)) \/
 (∃e,w=91::e/\∀r i,∃fa inn,Rf.set (e++r) i=some (i+(e.length+1),fa,inn))
def Ug (w:List UInt8) (mo:Int):Prop:=
 (∃x:UInt8,w=[123,x,125]/\48<=(x.toNat:Int)/\(x.toNat:Int)<=57/\mo=(x.toNat:Int)-48) \/
 (∃x z:UInt8,w=[123,x,44,z,125]/\48<=(x.toNat:Int)/\(x.toNat:Int)<=57/\48<=(z.toNat:Int)/\(z.toNat:Int)<=57/\mo=(z.toNat:Int)-48)
def UV (t:Tk):Prop:=
 (t.kd=1/\QG t.w)\/(t.kd=2/\t.w=[40])\/(t.kd=3/\t.w=[41])\/(t.kd=4/\t.w=[124])\/(t.kd=5/\t.w=[42])\/(t.kd=6/\t.w=[43])\/(t.kd=7/\t.w=[63])\/(t.kd=8/\Ug t.w t.mo)
def Yc (t:Tk):Prop:=t.kd=5\/t.kd=6\/t.kd=7\/t.kd=8
def Is:Nat->Bool->List Tk->Int->Prop
 |0,_,_,_=>False
 |f+1,true,ts,V=>(ts=[]/\V=0)\/(∃t r,ts=t::r/\UV t/\t.kd=4/\Is f true r V) \/
   (∃p r A B,ts=p++r/\Is f false p A/\Is f true r B/\V=A+B/\∀t r',r=t::r'->¬Yc t)
 |f+1,false,ts,V=>(∃t,ts=[t]/\UV t/\t.kd=1/\V=1)\/(∃a inn b,ts=a::(inn++[b])/\UV a/\a.kd=2/\UV b/\b.kd=3/\Is f true inn V) \/
   (∃q t A,ts=q++[t]/\Is f false q A/\UV t/\Yc t/\V=if t.kd=8 then A*t.mo else A)
theorem Dm:∀(f:Nat) (g:Bool) (ts:List Tk) (V:Int),Is f g ts V->Is (f+1) g ts V:=by
 intro f
 induction f with
 |zero=>intro g ts V h;exact absurd h (by simp[Is])
 |succ f ih=>
  intro g ts V h;cases g
  ·unfold Is at h ⊢;rcases h with h|⟨a,inn,b,h1,h2,h3,c,d,e⟩|⟨q,t,A,h1,h2,h3,c,d⟩
   ·exact Or.inl h
   ·exact Or.inr (Or.inl ⟨a,inn,b,h1,h2,h3,c,d,ih _ _ _ e⟩)
   exact Or.inr (Or.inr ⟨q,t,A,h1,ih _ _ _ h2,h3,c,d⟩)
  unfold Is at h ⊢;rcases h with h|⟨t,r,h1,h2,h3,c⟩|⟨p,r,A,B,h1,h2,h3,c,d⟩
  ·exact Or.inl h
  ·exact Or.inr (Or.inl ⟨t,r,h1,h2,h3,ih _ _ _ c⟩)
  exact Or.inr (Or.inr ⟨p,r,A,B,h1,ih _ _ _ h2,ih _ _ _ h3,c,d⟩)
theorem O9 {f:Nat}{b:Bool}{ts:List Tk}{V:Int} (h:Is f b ts V) (y:f<=g):Is g b ts V:=by
 induction g with
 |zero=>
   have:f=0:=by omega
   subst this;exact h
 |succ g ih=>
  by_cases e:f=g+1
  ·subst e;exact h
  exact Dm _ _ _ _ (ih (by omega))
def Eh:List Tk->Int->Int->Prop
 |[],_,op=>op=0
 |t::r,bf,op=>UV t/\Pg.canStand t.kd bf op=true/\Eh r t.kd (Pg.opens t.kd op)
theorem EZ {t:Tk} (h:UV t):t.kd=1\/t.kd=2\/t.kd=3\/t.kd=4\/Yc t:=by
 unfold Yc;rcases h with h|h|h|h|h|h|h|h<;>omega
theorem Mv {t:Tk} (h:Yc t) (op:Int):Pg.opens t.kd op=op:=by
 unfold Pg.opens Yc at *;rw[g_,g_]
theorem BN:∀(r:List Tk) (f:Nat) (q:List Tk) (A y op:Int),Is f false q A->Eh r y op ->
  ∃f' q' A' r' bf',q++r=q'++r'/\Is f' false q' A'/\Eh r' bf' op/\r'.length<=r.length/\∀t r'',r'=t::r''->¬Yc t:=by
 intro r
 induction r with
 |nil=>intro f q A y op h a;exact⟨f,q,A,[],y,rfl,h,a,Zg _,by simp⟩
 |cons t r ih=>
  intro f q A y op h a;by_cases hs:Yc t
  ·obtain⟨h1,h2,h3⟩:=a;rw[Mv hs]at h3;have g:Is (f+1) false (q++[t]) (if t.kd=8 then A*t.mo else A):=Or.inr (Or.inr ⟨q,t,A,rfl,h,h1,hs,rfl⟩);obtain⟨f',q',A',r',bf',b,e2,c,i,d⟩:=ih (f+1) (q++[t]) _ _ op g h3;exact⟨f',q',A',r',bf',by rw[<-b];simp,e2,c,by simp;omega,d⟩
  exact⟨f,q,A,t::r,y,rfl,h,a,Zg _,λj r'' e=>by cases e;exact hs⟩
theorem Df:∀(n:Nat) (ts:List Tk) (Y op:Int),ts.length<=n->0<=op->Eh ts Y op->(∀t r,ts=t::r->¬Yc t) ->
  ∃f inn rest V,ts=inn++rest/\Is f true inn V/\((rest=[]/\op=0)\/(∃b r,rest=b::r/\UV b/\b.kd=3/\0<op/\Eh r 3 (op-1))):=by
 intro n
 induction n with
 |zero=>
  intro ts Y op l h0 m _;have:ts=[]:=List.eq_nil_of_length_eq_zero (by omega);subst this;exact⟨1,[],[],0,rfl,Or.inl ⟨rfl,rfl⟩,Or.inl ⟨rfl,m⟩⟩
 |succ n ih=>
  intro ts Y op l h0 m p;rcases ts with _|⟨t,r⟩
  ·exact⟨1,[],[],0,rfl,Or.inl ⟨rfl,rfl⟩,Or.inl ⟨rfl,m⟩⟩
  obtain⟨h1,h2,h3⟩:=m;simp only[List.length_cons]at l;have go:∀(f:Nat) (q k:List Tk) (A d:Int),Is f false q A->Eh k d op->k.length<=n->t::r=q++k ->
    ∃f inn rest V,t::r=inn++rest/\Is f true inn V/\((rest=[]/\op=0)\/(∃b r,rest=b::r/\UV b/\b.kd=3/\0<op/\Eh r 3 (op-1))):=by
   intro f q k A d G s F E;obtain⟨f',B,x,u,o,C,e2,D,J,y⟩:=BN k f q A d op G s;obtain⟨i,inn,rest,V,g1,g2,j⟩:=ih u o op (by omega) h0 D y;refine⟨max f' i+1,B++inn,rest,x+V,by rw[E,C,g1,Zs],Or.inr (Or.inr ⟨B,inn,x,V,rfl,O9 e2 (Nat.le_max_left _ _),O9 g2 (Nat.le_max_right _ _),rfl,?_⟩),j⟩;intro w v e;exact y w (v++rest) (by rw[g1,e];rfl)
  rcases EZ h1 with c|c|c|c|c
  ·rw[c]at h3;exact go 1 [t] r 1 1 (Or.inl ⟨t,rfl,h1,c,rfl⟩) h3 (by omega) rfl
  ·rw[c]at h3;have a:=h3;obtain⟨i,inn,rest,V,g1,g2,j⟩:=ih r 2 (op+1) (by omega) (by omega) a (by
    intro w u e hs;rw[e]at a;have:=a.2.1;unfold Yc at hs;simp[Pg.canStand,Pg.endsPiece,Pg.isSuffix]at this;rcases hs with h|h|h|h<;>simp[h]at this)
   rcases j with ⟨_,g⟩|⟨b,I,rfl,k1,H,K,z⟩
   ·omega
   rw[show op+1-1=op by omega]at z;refine go (i+1) (t::(inn++[b])) I V 3 (Or.inr (Or.inl ⟨t,inn,b,rfl,h1,c,k1,H,g2⟩)) z ?_ (by rw[g1];simp);rw[g1]at l;simp at l;omega
  ·refine⟨1,[],t::r,0,rfl,Or.inl ⟨rfl,rfl⟩,Or.inr ⟨t,r,rfl,h1,c,?_,?_⟩⟩
   ·rw[c]at h2;simpa[Pg.canStand]using h2
   rw[c]at h3;exact h3
  ·rw[c]at h3;have a:=h3;obtain⟨i,inn,rest,V,g1,g2,j⟩:=ih r 4 op (by omega) h0 a (by
    intro w u e hs;rw[e]at a;have:=a.2.1;unfold Yc at hs;simp[Pg.canStand,Pg.endsPiece,Pg.isSuffix]at this;rcases hs with h|h|h|h<;>simp[h]at this)
   exact⟨i+1,t::inn,rest,V,by rw[g1];rfl,Or.inr (Or.inl ⟨t,inn,rfl,h1,c,g2⟩),j⟩
  exact absurd c (p t r rfl)
def Vr (t:Tk):Pg.Pt:=⟨t.kd,0,λ_=>false,0,t.mo,0⟩
theorem VU (n:Int):Pg.capped n=if 96<n then 97 else n:=rfl
theorem TK {a b:Int} (_ha:0<=a) (y:0<=b):Pg.capped (Pg.capped a+b)=Pg.capped (a+b):=by
 simp only[VU];repeat' split
 all_goals omega
theorem II {a m:Int} (_ha:0<=a) (y:0<=m):Pg.capped (Pg.capped a*m)=Pg.capped (a*m):=by
 by_cases h:96<a
 ·rw[VU a,if_pos h];by_cases h0:m=0
  ·subst h0;simp
  have h1:97*1<=97*m:=Int.mul_le_mul_of_nonneg_left (by omega) (by omega);have h2:97*m<=a*m:=Int.mul_le_mul_of_nonneg_right (by omega) y;rw[VU,VU,p_,p_]
 rw[VU a,if_neg h]
theorem Vf {a:Int} (ha:0<=a):0<=Pg.capped a:=(Pg.capped_le a ha).1
theorem NY {t:Tk} (h:UV t) (y:t.kd=8):0<=t.mo/\Ug t.w t.mo:=by
 have a:Ug t.w t.mo:=by
  rcases h with h|h|h|h|h|h|h|h
  all_goals first|(exact absurd h.1 (by omega))|exact h.2
 refine⟨?_,a⟩;rcases a with ⟨x,_,h1,h2,h3⟩|⟨x,z,_,_,_,h1,h2,h3⟩<;>omega
theorem SP (a b:List Pg.Pt):∀c,Pg.cRun (a++b) c=Pg.cRun b (Pg.cRun a c):=by
 induction a with
 |nil=>intro c;rfl
 |cons p r ih=>intro c;simp only[Zt,Pg.cRun];exact ih _
theorem machine:∀(f:Nat) (g:Bool) (ts:List Tk) (V:Int),Is f g ts V->0<=V /\
  (g=false->∀c:Pg.C,0<=c.ah->0<=c.la->Pg.cRun (ts.map Vr) c=⟨Pg.capped (c.ah+c.la),Pg.capped V,c.st⟩) /\
  (g=true->∀c:Pg.C,0<=c.ah->0<=c.la->∃ah la,Pg.cRun (ts.map Vr) c=⟨ah,la,c.st⟩/\0<=ah/\0<=la/\Pg.capped (ah+la)=Pg.capped (c.ah+c.la+V)):=by
 intro f
 induction f with
 |zero=>intro g ts V h;exact absurd h (by simp[Is])
 |succ f ih=>
  intro g ts V h;cases g
  ·unfold Is at h;rcases h with ⟨t,rfl,h2,h3,rfl⟩|⟨a,inn,b,rfl,h2,h3,n,u,v⟩|⟨q,t,A,rfl,h2,h3,n,rfl⟩
   ·refine⟨by omega,λ_ c h1 h2=>?_,λh=>by cases h⟩;simp only[List.map_cons,List.map_nil,Pg.cRun,Pg.cStep,Vr,h3,if_true];rfl
   ·obtain⟨i,_,l⟩:=ih true inn V v;refine⟨i,λ_ c c1 c2=>?_,λh=>by cases h⟩;obtain⟨ah,la,j,e2,m,k⟩:=l rfl ⟨0,0,Pg.capped (c.ah+c.la)::c.st⟩ (by simp) (by simp);simp only[List.map_cons,List.map_append,List.map_nil,Pg.cRun];have s:Pg.cStep c (Vr a)=⟨0,0,Pg.capped (c.ah+c.la)::c.st⟩:=by simp[Pg.cStep,Vr,h3]
    rw[s,SP,j];simp only[Pg.cRun];have x:Pg.cStep ⟨ah,la,Pg.capped (c.ah+c.la)::c.st⟩ (Vr b)=⟨Pg.capped (c.ah+c.la),Pg.capped (ah+la),c.st⟩:=by simp[Pg.cStep,Vr,u]
    rw[x,k];simp
   obtain⟨e,o,_⟩:=ih false q A h2;have i:0<=(if t.kd=8 then A*t.mo else A):=by
    split
    ·rename_i d;exact Int.mul_nonneg e (NY h3 d).1
    exact e
   refine⟨i,λ_ c c1 c2=>?_,λh=>by cases h⟩;rw[List.map_append,SP,o rfl c c1 c2];simp only[List.map_cons,List.map_nil,Pg.cRun];by_cases d:t.kd=8
   ·rw[if_pos d];simp only[Pg.cStep,Vr,d];rw[if_neg (by decide),if_neg (by decide),if_neg (by decide),if_neg (by decide),if_pos trivial,II e (NY h3 d).1]
   rw[if_neg d];unfold Yc at n;unfold Pg.cStep;rw[if_neg (show ¬(Vr t).kd=1 by simp only[Vr];omega),if_neg (show ¬(Vr t).kd=2 by simp only[Vr];omega),if_neg (show ¬(Vr t).kd=3 by simp only[Vr];omega),if_neg (show ¬(Vr t).kd=4 by simp only[Vr];omega),if_neg (show ¬(Vr t).kd=8 from d)]
  unfold Is at h;rcases h with ⟨rfl,rfl⟩|⟨t,r,rfl,h2,h3,n⟩|⟨p,r,A,B,rfl,h2,h3,rfl,u⟩
  ·refine⟨by omega,(λh=>by cases h),λ_ c c1 c2=>⟨c.ah,c.la,rfl,c1,c2,by simp⟩⟩
  ·obtain⟨i,_,l⟩:=ih true r V n;refine⟨i,(λh=>by cases h),λ_ c c1 c2=>?_⟩;obtain⟨ah,la,j,e2,m,k⟩:=l rfl ⟨Pg.capped (c.ah+c.la),0,c.st⟩ (Vf (by omega)) (by simp);refine⟨ah,la,?_,e2,m,?_⟩
   ·simp only[List.map_cons,Pg.cRun];have s:Pg.cStep c (Vr t)=⟨Pg.capped (c.ah+c.la),0,c.st⟩:=by simp[Pg.cStep,Vr,h3]
    rw[s,j]
   rw[k];simp only[Int.add_zero];exact TK (by omega) i
  obtain⟨e,o,_⟩:=ih false p A h2;obtain⟨y,_,l⟩:=ih true r B h3;refine⟨by omega,(λh=>by cases h),λ_ c c1 c2=>?_⟩;obtain⟨ah,la,j,e2,m,k⟩:=l rfl ⟨Pg.capped (c.ah+c.la),Pg.capped A,c.st⟩ (Vf (by omega)) (Vf e);refine⟨ah,la,by rw[List.map_append,SP,o rfl c c1 c2,j],e2,m,?_⟩;rw[k];simp only;have k1:=TK (a:=c.ah+c.la) (b:=Pg.capped A+B) (by omega) (by have:=Vf e;omega);have w:=TK (a:=A) (b:=c.ah+c.la+B) e (by omega);rw[show Pg.capped (c.ah+c.la)+Pg.capped A+B=Pg.capped (c.ah+c.la)+(Pg.capped A+B) by omega,k1,show c.ah+c.la+(Pg.capped A+B)=Pg.capped A+(c.ah+c.la+B) by omega,w];congr 1;omega
theorem Pe {t:Tk} (h:UV t) (h3:t.kd≠3):∃C,C<=t.w.length/\1<=t.w.length/\∀(p:List UInt8) (i v:Nat) (o:Int) (r:List UInt8),p.drop i=t.w++r->Rf.groupFrom p (v+C) i o=Rf.groupFrom p v (i+t.w.length) (Pg.opens t.kd o):=by
 have one:∀(c:UInt8) (p:List UInt8) (i v:Nat) (o:Int) (r:List UInt8),c≠92->c≠91->c≠40->c≠41->p.drop i=c::r->Rf.groupFrom p (v+1) i o=Rf.groupFrom p v (i+1) o:=by
  intro c p i v o r B D E F b;rw[Rf.groupFrom,b];simp only[if_neg B,if_neg D,if_neg E,if_neg F]
 rcases h with ⟨d,h⟩|⟨d,a⟩|⟨d,a⟩|⟨d,a⟩|⟨d,a⟩|⟨d,a⟩|⟨d,a⟩|⟨d,h⟩
 ·have g:∀o,Pg.opens t.kd o=o:=λo=>by simp[Pg.opens,d]
  rcases h with ⟨c,a,hs⟩|⟨e,v0,a,j⟩|⟨e,a,k⟩
  ·refine⟨1,by simp[a],by simp[a],λp i v o r b=>?_⟩;rw[g,a];rw[a]at b;unfold TH at hs;exact one c p i v o r (λe=>hs (by simp[e])) (λe=>hs (by simp[e])) (λe=>hs (by simp[e])) (λe=>hs (by simp[e])) b
  ·refine⟨1,by simp[a],by simp[a],λp i v o r b=>?_⟩;rw[g,a];rw[a]at b;rw[Rf.groupFrom,b];simp only[Zt];rw[if_pos trivial,j r];rfl
  refine⟨1,by simp[a],by simp[a],λp i v o r b=>?_⟩;rw[g,a];rw[a]at b;obtain⟨fa,inn,hs⟩:=k r i;rw[Rf.groupFrom,b];simp only[Zt];rw[if_neg (by decide),if_pos trivial,hs];rfl
 ·refine⟨1,by simp[a],by simp[a],λp i v o r b=>?_⟩;rw[a]at b;rw[Rf.groupFrom,b,a];simp[Pg.opens,d]
 ·exact absurd d h3
 ·refine⟨1,by simp[a],by simp[a],λp i v o r b=>?_⟩;rw[a]at b;rw[show Pg.opens t.kd o=o by simp[Pg.opens,d],a];exact one 124 p i v o r (by decide) (by decide) (by decide) (by decide) b
 ·refine⟨1,by simp[a],by simp[a],λp i v o r b=>?_⟩;rw[a]at b;rw[show Pg.opens t.kd o=o by simp[Pg.opens,d],a];exact one 42 p i v o r (by decide) (by decide) (by decide) (by decide) b
 ·refine⟨1,by simp[a],by simp[a],λp i v o r b=>?_⟩;rw[a]at b;rw[show Pg.opens t.kd o=o by simp[Pg.opens,d],a];exact one 43 p i v o r (by decide) (by decide) (by decide) (by decide) b
 ·refine⟨1,by simp[a],by simp[a],λp i v o r b=>?_⟩;rw[a]at b;rw[show Pg.opens t.kd o=o by simp[Pg.opens,d],a];exact one 63 p i v o r (by decide) (by decide) (by decide) (by decide) b
 have g:∀o,Pg.opens t.kd o=o:=λo=>by simp[Pg.opens,d]
 have f:∀x:UInt8,48<=(x.toNat:Int)->(x.toNat:Int)<=57->x≠92/\x≠91/\x≠40/\x≠41:=by
  intro x h1 h2;refine⟨?_,?_,?_,?_⟩<;>(intro e;subst e;revert h1 h2;decide)
 rcases h with ⟨x,a,x1,x2,_⟩|⟨x,z,a,x1,x2,K,L,_⟩
 ·refine⟨3,by simp[a],by simp[a],λp i v o r b=>?_⟩;rw[a]at b;obtain⟨n,q,s,u⟩:=f x x1 x2;have l:p.drop (i+1)=x::125::r:=by rw[<-YV,b];rfl
  have m:p.drop (i+2)=125::r:=by rw[<-YV,b];rfl
  rw[g,a,show v+3=v+2+1 by omega,one 123 p i _ o _ (by decide) (by decide) (by decide) (by decide) b,show v+2=v+1+1 by omega,one x p _ _ o _ n q s u l,one 125 p _ _ o _ (by decide) (by decide) (by decide) (by decide) m];rfl
 refine⟨5,by simp[a],by simp[a],λp i v o r b=>?_⟩;rw[a]at b;obtain⟨n,q,s,u⟩:=f x x1 x2;obtain⟨G,H,I,J⟩:=f z K L;have l:p.drop (i+1)=x::44::z::125::r:=by rw[<-YV,b];rfl
 have m:p.drop (i+2)=44::z::125::r:=by rw[<-YV,b];rfl
 have y:p.drop (i+3)=z::125::r:=by rw[<-YV,b];rfl
 have A:p.drop (i+4)=125::r:=by rw[<-YV,b];rfl
 rw[g,a,show v+5=v+4+1 by omega,one 123 p i _ o _ (by decide) (by decide) (by decide) (by decide) b,show v+4=v+3+1 by omega,one x p _ _ o _ n q s u l,show v+3=v+2+1 by omega,one 44 p _ _ o _ (by decide) (by decide) (by decide) (by decide) m,show v+2=v+1+1 by omega,one z p _ _ o _ G H I J y,one 125 p _ _ o _ (by decide) (by decide) (by decide) (by decide) A];rfl
theorem BL:∀(f:Nat) (g:Bool) (ts:List Tk) (V:Int),Is f g ts V->∃C,C<=(X8 ts).length/\∀(p:List UInt8) (i v:Nat) (o:Int) (r:List UInt8),1<=o->p.drop i=X8 ts++r->Rf.groupFrom p (v+C) i o=Rf.groupFrom p v (i+(X8 ts).length) o:=by
 intro f
 induction f with
 |zero=>intro g ts V h;exact absurd h (by simp[Is])
 |succ f ih=>
  have d:∀(a b:List UInt8) (j l:Nat),(∀(p:List UInt8) (i v:Nat) (o:Int) (r:List UInt8),1<=o->p.drop i=a++r->Rf.groupFrom p (v+j) i o=Rf.groupFrom p v (i+a.length) o) ->
    (∀(p:List UInt8) (i v:Nat) (o:Int) (r:List UInt8),1<=o->p.drop i=b++r->Rf.groupFrom p (v+l) i o=Rf.groupFrom p v (i+b.length) o) ->
    ∀(p:List UInt8) (i v:Nat) (o:Int) (r:List UInt8),1<=o->p.drop i=(a++b)++r->Rf.groupFrom p (v+(j+l)) i o=Rf.groupFrom p v (i+(a++b).length) o:=by
   intro a b j l ha J p i v o r e c;rw[show v+(j+l)=(v+l)+j by omega,ha p i (v+l) o (b++r) e (by rw[c,Zs]),J p (i+a.length) v o r e (by rw[<-YV,c,Zs,List.drop_left])];rw[Zl,ZN]
  intro g ts V h;cases g
  ·unfold Is at h;rcases h with ⟨t,rfl,h2,h3,_⟩|⟨a,inn,b,rfl,h2,h3,m,H,I⟩|⟨q,t,A,rfl,h2,h3,m,_⟩
   ·obtain⟨C,c1,c2,c3⟩:=Pe h2 (by omega);refine⟨C,by simpa[X8]using c1,λp i v o r e c=>?_⟩;have:=c3 p i v o r (by simpa[X8]using c);rw[this,show Pg.opens t.kd o=o by simp[Pg.opens,h3]];simp[X8]
   ·obtain⟨j,O,P,G⟩:=Pe h2 (by omega);obtain⟨y,Q,K⟩:=ih true inn V I;have k:b.w=[41]:=by
     rcases m with h|h|h|h|h|h|h|h
     all_goals first|(exact absurd h.1 (by omega))|exact h.2
    refine⟨j+y+1,by simp[X8,k]at *;omega,λp i v o r e c=>?_⟩;have s:p.drop i=a.w++(X8 inn++(41::r)):=by
     rw[c,XX,X6];simp[X8,k]
    have u:p.drop (i+a.w.length)=X8 inn++(41::r):=by rw[<-YV,s,List.drop_left]
    have z:p.drop (i+a.w.length+(X8 inn).length)=41::r:=by rw[<-YV,u,List.drop_left]
    rw[show v+(j+y+1)=(v+1+y)+j by omega,G p i _ o _ s,show Pg.opens a.kd o=o+1 by simp[Pg.opens,h3],K p _ _ (o+1) _ (by omega) u,Rf.groupFrom,z];simp only;rw[if_neg (by decide),if_neg (by decide),if_neg (by decide),if_pos trivial,g_,show o+1-1=o by omega];congr 1;rw[XX,X6];simp[X8,k];omega
   obtain⟨E,S,M⟩:=ih false q A h2;obtain⟨C,c1,c2,c3⟩:=Pe h3 (by unfold Yc at m;omega);refine⟨E+C,by rw[X6];simp[X8]at *;omega,λp i v o r e c=>?_⟩;rw[X6]at c ⊢;refine d (X8 q) (X8 [t]) E C M ?_ p i v o r e c;intro p i v o r e c;have:=c3 p i v o r (by simpa[X8]using c);rw[this,Mv m];simp[X8]
  unfold Is at h;rcases h with ⟨rfl,_⟩|⟨t,x,rfl,h2,h3,m⟩|⟨F,x,A,B,rfl,h2,h3,_,H⟩
  ·exact⟨0,by simp,λp i v o r e c=>by simp[X8]⟩
  ·obtain⟨C,c1,c2,c3⟩:=Pe h2 (by omega);obtain⟨n,N,D⟩:=ih true x V m;refine⟨C+n,by rw[XX,Zl];omega,λp i v o r e c=>?_⟩;rw[XX]at c ⊢;refine d t.w (X8 x) C n ?_ D p i v o r e c;intro p i v o r e c;rw[c3 p i v o r c,show Pg.opens t.kd o=o by simp[Pg.opens,h3]]
  obtain⟨Cp,R,L⟩:=ih false F A h2;obtain⟨n,N,D⟩:=ih true x B h3;refine⟨Cp+n,by rw[X6,Zl];omega,λp i v o r e c=>?_⟩;rw[X6]at c ⊢;exact d (X8 F) (X8 x) Cp n L D p i v o r e c
theorem Cx:∀(f:Nat) (g:Bool) (ts:List Tk) (V:Int),Is f g ts V->∀t∈ts,UV t:=by
 intro f
 induction f with
 |zero=>intro g ts V h;exact absurd h (by simp[Is])
 |succ f ih=>
  intro g ts V h t c;cases g
  ·unfold Is at h;rcases h with ⟨e,rfl,h2,_,_⟩|⟨a,inn,b,rfl,h2,_,d,_,i⟩|⟨q,e,A,rfl,h2,h3,_,_⟩
   ·rw[ZC]at c;subst c;exact h2
   ·simp only[ZR,ZU,List.not_mem_nil,or_false]at c;rcases c with rfl|c|rfl
    ·exact h2
    ·exact ih _ _ _ i t c
    exact d
   simp only[ZU,ZC]at c;rcases c with c|rfl
   ·exact ih _ _ _ h2 t c
   exact h3
  unfold Is at h;rcases h with ⟨rfl,_⟩|⟨e,r,rfl,h2,_,d⟩|⟨p,r,A,B,rfl,h2,h3,_,_⟩
  ·exact absurd c (by simp)
  ·rcases ZR.1 c with rfl|c
   ·exact h2
   exact ih _ _ _ d t c
  rcases ZU.1 c with c|c
  ·exact ih _ _ _ h2 t c
  exact ih _ _ _ h3 t c
def Rj (c:UInt8):Bool:=Rf.has Rf.suffixes c.toNat
theorem Fx (c:UInt8):Rj c=true<->(c=42\/c=43\/c=63\/c=123):=by
 have h:∀d:UInt8,((d.toNat:Int)==(c.toNat:Int))=true<->c=d:=by
  intro d;rw[beq_iff_eq];constructor
  ·intro h;exact(UInt8.toNat_inj.1 (by omega))
  intro h;rw[h]
 simp only[Rj,Rf.has,Rf.suffixes,Bool.or_eq_true,h,Bool.false_eq_true,or_false]
theorem Xb {t:Tk} (h:UV t):∃c w,t.w=c::w/\(Rj c=true<->Yc t)/\(c=124<->t.kd=4)/\(c=40<->t.kd=2)/\(c=123<->t.kd=8):=by
 have a:∀(c:UInt8) (w:List UInt8) (k:Int),t.w=c::w->t.kd=k->(Rj c=true<->(k=5\/k=6\/k=7\/k=8))->(c=124<->k=4)->(c=40<->k=2)->(c=123<->k=8) ->
   ∃c w,t.w=c::w/\(Rj c=true<->Yc t)/\(c=124<->t.kd=4)/\(c=40<->t.kd=2)/\(c=123<->t.kd=8):=by
  intro c w k h1 h2 h3 f g i;refine⟨c,w,h1,?_,?_,?_,?_⟩
  ·unfold Yc;rw[h2];exact h3
  ·rw[h2];exact f
  ·rw[h2];exact g
  rw[h2];exact i
 rcases h with ⟨d,h⟩|⟨d,b⟩|⟨d,b⟩|⟨d,b⟩|⟨d,b⟩|⟨d,b⟩|⟨d,b⟩|⟨d,h⟩
 ·rcases h with ⟨c,b,hs⟩|⟨e,v0,b,_⟩|⟨e,b,_⟩
  ·unfold TH at hs;refine a c [] 1 b d ?_ ?_ ?_ ?_
   ·rw[Fx];constructor
    ·intro h;exact absurd (by rcases h with h|h|h|h<;>simp[h]) hs
    intro h;omega
   ·constructor
    ·intro h;exact absurd (by simp[h]) hs
    intro h;omega
   ·constructor
    ·intro h;exact absurd (by simp[h]) hs
    intro h;omega
   constructor
   ·intro h;exact absurd (by simp[h]) hs
   intro h;omega
  ·exact a 92 e 1 b d (by decide) (by decide) (by decide) (by decide)
  exact a 91 e 1 b d (by decide) (by decide) (by decide) (by decide)
 ·exact a 40 [] 2 b d (by decide) (by decide) (by decide) (by decide)
 ·exact a 41 [] 3 b d (by decide) (by decide) (by decide) (by decide)
 ·exact a 124 [] 4 b d (by decide) (by decide) (by decide) (by decide)
 ·exact a 42 [] 5 b d (by decide) (by decide) (by decide) (by decide)
 ·exact a 43 [] 6 b d (by decide) (by decide) (by decide) (by decide)
 ·exact a 63 [] 7 b d (by decide) (by decide) (by decide) (by decide)
 rcases h with ⟨x,b,_⟩|⟨x,z,b,_⟩
 ·exact a 123 _ 8 b d (by decide) (by decide) (by decide) (by decide)
 exact a 123 _ 8 b d (by decide) (by decide) (by decide) (by decide)
theorem VV {p:List UInt8}{f:Nat}{c:UInt8} (y:p.drop i=c::r) (h:c≠125):Rf.closeFrom p (f+1) i=Rf.closeFrom p f (i+1):=by
 rw[Rf.closeFrom,y];simp only[if_neg h]
theorem NA {p:List UInt8}{f:Nat} (y:p.drop i=125::r):Rf.closeFrom p (f+1) i=some (i+1):=by
 rw[Rf.closeFrom,y];simp only[if_true]
theorem PT {p:List UInt8}{l:List UInt8} (y:p.drop i=l):l.length=p.length-i:=by
 rw[<-y];simp
theorem OI {t:Tk} (h:UV t) (hs:Yc t) (p:List UInt8) (i:Nat) (r:List UInt8) (y:p.drop i=t.w++r):Rf.suffixed p i=some (i+t.w.length):=by
 have one:∀c:UInt8,c≠123->t.w=[c]->Rf.suffixed p i=some (i+t.w.length):=by
  intro c n a;rw[a]at y ⊢;rw[Rf.suffixed,y];simp only[Zt,if_neg n];rfl
 unfold Yc at hs;rcases h with ⟨d,_⟩|⟨d,_⟩|⟨d,_⟩|⟨d,_⟩|⟨d,a⟩|⟨d,a⟩|⟨d,a⟩|⟨d,h⟩
 ·omega
 ·omega
 ·omega
 ·omega
 ·exact one 42 (by decide) a
 ·exact one 43 (by decide) a
 ·exact one 63 (by decide) a
 have b:∀x:UInt8,48<=(x.toNat:Int)->(x.toNat:Int)<=57->x≠125:=by
  intro x h1 h2 e;subst e;revert h1 h2;decide
 rcases h with ⟨x,a,x1,x2,_⟩|⟨x,z,a,x1,x2,o,q,_⟩
 ·rw[a]at y ⊢;have f:p.drop (i+1)=x::125::r:=by rw[<-YV,y];rfl
  have g:p.drop (i+2)=125::r:=by rw[<-YV,y];rfl
  have j:=PT y;simp at j;obtain⟨v,k⟩:∃v,p.length+1=v+1+1+1:=⟨p.length-2,by omega⟩;rw[Rf.suffixed,y];simp only[Zt,if_true];rw[k,VV y (by decide),VV f (b x x1 x2),NA g];rfl
 rw[a]at y ⊢;have f:p.drop (i+1)=x::44::z::125::r:=by rw[<-YV,y];rfl
 have g:p.drop (i+2)=44::z::125::r:=by rw[<-YV,y];rfl
 have l:p.drop (i+3)=z::125::r:=by rw[<-YV,y];rfl
 have m:p.drop (i+4)=125::r:=by rw[<-YV,y];rfl
 have j:=PT y;simp at j;obtain⟨v,k⟩:∃v,p.length+1=v+1+1+1+1+1:=⟨p.length-4,by omega⟩;rw[Rf.suffixed,y];simp only[Zt,if_true];rw[k,VV y (by decide),VV f (b x x1 x2),VV g (by decide),VV l (b z o q),NA m];rfl
def CC (ts:List Tk):Prop:=∀t∈ts,UV t/\Yc t
theorem Pr {ts:List Tk} (h:∀t∈ts,UV t):ts.length<=(X8 ts).length:=by
 induction ts with
 |nil=>simp
 |cons t r ih=>
  obtain⟨c,w,b,_⟩:=Xb (h t (by simp));have:=ih (λd a=>h d (by simp[a]));rw[XX,Zl,b];simp;omega
theorem Ok:∀(ts:List Tk),CC ts->∀(p:List UInt8) (i f:Nat) (r:List UInt8),p.drop i=X8 ts++r->(∀c r',r=c::r'->Rj c=false)->ts.length<f->Rf.pieceFrom p f i=some (i+(X8 ts).length):=by
 intro ts
 induction ts with
 |nil=>
  intro _ p i f r a h j;obtain⟨f,rfl⟩:∃q,f=q+1:=⟨f-1,by omega⟩;simp only[X8,List.flatMap_nil,List.nil_append,List.length_nil,Nat.add_zero]at a ⊢;rw[Rf.pieceFrom,a];rcases r with _|⟨c,r'⟩
  ·rfl
  have:=h c r' rfl;unfold Rj at this;simp only[this];rfl
 |cons t ts ih=>
  intro hs p i f r a h j;obtain⟨f,rfl⟩:∃q,f=q+1:=⟨f-1,by omega⟩;obtain⟨h1,h2⟩:=hs t (by simp);rw[XX,Zs]at a;obtain⟨c,w,m,k,_⟩:=Xb h1;have d:=k.2 h2;unfold Rj at d;have b:=OI h1 h2 p i _ a;have g:p.drop (i+t.w.length)=X8 ts++r:=by rw[<-YV,a,List.drop_left]
  have e:=a;rw[m,Zt]at e;rw[Rf.pieceFrom,e];simp only[d,if_true];rw[b];simp only;rw[ih (λn l=>hs n (by simp[l])) p _ f r g h (by simp at j;omega),XX,Zl,ZN]
theorem OF:∀(ts:List Tk),CC ts->∀(t:Tk),UV t->Yc t->∀(p:List UInt8) (i y f:Nat),p.drop i=X8 ts++t.w->ts.length+1<f->Rf.splitFrom p f i y=some (i+(X8 ts).length):=by
 intro ts
 induction ts with
 |nil=>
  intro _ t h1 h2 p i y f d g;obtain⟨f,rfl⟩:∃q,f=q+1+1:=⟨f-2,by simp at g;omega⟩;have b:p.drop i=t.w++[]:=by rw[d];simp[X8]
  have a:=OI h1 h2 p i [] b;have e:p.drop (i+t.w.length)=[]:=by rw[<-YV,b,List.drop_left]
  obtain⟨c,w,h,_⟩:=Xb h1;rw[h,Zt]at b;rw[Rf.splitFrom,b];simp only[a];rw[Rf.splitFrom,e];rfl
 |cons t0 ts ih=>
  intro hs t h1 h2 p i y f d g;obtain⟨f,rfl⟩:∃q,f=q+1:=⟨f-1,by omega⟩;obtain⟨g1,g2⟩:=hs t0 (by simp);rw[XX,Zs]at d;have a:=OI g1 g2 p i _ d;have e:p.drop (i+t0.w.length)=X8 ts++t.w:=by rw[<-YV,d,List.drop_left]
  obtain⟨c,w,h,_⟩:=Xb g1;rw[h,Zt]at d;rw[Rf.splitFrom,d];simp only[a];rw[ih (λk j=>hs k (by simp[j])) t h1 h2 p _ i f e (by simp at g;omega),XX,Zl,ZN]
theorem VI:∀(f:Nat) (p:List Tk) (V:Int),Is f false p V->∃(base:List UInt8) (J:List Tk),X8 p=base++X8 J/\CC J/\(∃c w,base=c::w/\c≠124)/\∀r,Rf.atom (base++r)=some base.length:=by
 intro f
 induction f with
 |zero=>intro p V h;exact absurd h (by simp[Is])
 |succ f ih=>
  intro p V h;unfold Is at h;rcases h with ⟨t,rfl,h2,h3,rfl⟩|⟨a,inn,b,rfl,h2,h3,l,H,D⟩|⟨q,t,A,rfl,h2,h3,l,_⟩
  ·obtain⟨c,w,g,_,E,B,_⟩:=Xb h2;refine⟨t.w,[],by simp[X8],(by intro s d;simp at d),⟨c,w,g,λe=>by have:=E.1 e;omega⟩,λr=>?_⟩;have F:QG t.w:=by
    rcases h2 with h|h|h|h|h|h|h|h
    all_goals first|(exact absurd h.1 (by omega))|exact h.2
   rcases F with ⟨c,g,hs⟩|⟨e,v0,g,j⟩|⟨e,g,k⟩
   ·unfold TH at hs;rw[g,Zt,Rf.atom]
    (try simp only)
    rw[if_neg (λe=>hs (by simp[e])),if_neg (λe=>hs (by simp[e])),if_neg (λe=>hs (by simp[e]))];rfl
   ·rw[g,Zt,Rf.atom];simp only[if_true];rw[j r];rfl
   obtain⟨fa,inn,hs⟩:=k r 0;rw[g,Zt,Rf.atom];simp only;rw[if_neg (by decide),if_pos trivial,hs];simp
  ·have m:a.w=[40]:=by
    rcases h2 with h|h|h|h|h|h|h|h
    all_goals first|(exact absurd h.1 (by omega))|exact h.2
   have n:b.w=[41]:=by
    rcases l with h|h|h|h|h|h|h|h
    all_goals first|(exact absurd h.1 (by omega))|exact h.2
   have d:X8 (a::(inn++[b]))=40::(X8 inn++[41]):=by
    rw[XX,X6,m];simp[X8,n]
   refine⟨40::(X8 inn++[41]),[],by rw[d];simp[X8],(by intro s d;simp at d),⟨40,_,rfl,by decide⟩,λr=>?_⟩;obtain⟨C,c1,c2⟩:=BL f true inn V D;rw[Zt,Rf.atom];simp only;rw[if_neg (by decide),if_neg (by decide),if_pos trivial,Rf.groupFrom,Zw];simp only;rw[if_neg (by decide),if_neg (by decide),if_pos trivial];have u:(X8 inn++[41]++r).length=(X8 inn).length+1+r.length:=by simp;omega
   obtain⟨v,G⟩:∃v,(X8 inn++[41]++r).length+1=(v+1)+C:=⟨(X8 inn).length+1+r.length-C,by omega⟩;have i:(40::(X8 inn++[41]++r)).drop (0+1)=X8 inn++(41::r):=by simp
   have o:(40::(X8 inn++[41]++r)).drop (0+1+(X8 inn).length)=41::r:=by rw[<-YV,i,List.drop_left]
   rw[G,c2 _ _ (v+1) (0+1) (41::r) (by omega) i,Rf.groupFrom,o];simp only;rw[if_neg (by decide),if_neg (by decide),if_neg (by decide),if_pos trivial,if_pos (by decide)];simp;omega
  obtain⟨base,J,x,e2,y,z⟩:=ih q A h2;refine⟨base,J++[t],by rw[X6,X6,x,Zs],?_,y,z⟩;intro s d;rcases ZU.1 d with d|d
  ·exact e2 s d
  rw[ZC]at d;subst d;exact⟨h3,l⟩
theorem ES {r:List Tk} (h:∀t∈r,UV t) (y:∀t r',r=t::r'->¬Yc t):∀c r',X8 r=c::r'->Rj c=false:=by
 intro c r' a;rcases r with _|⟨t,r⟩
 ·simp[X8]at a
 obtain⟨d,w,e,b,_⟩:=Xb (h t (by simp));rw[XX,e,Zt]at a;injection a with he1 he2;subst he1;cases hb:Rj d
 ·rfl
 exact absurd (b.1 hb) (y t r rfl)
theorem NZ {w:List UInt8} (h:Ug w mo):Rf.most w=some mo:=by
 have a:∀x:UInt8,48<=(x.toNat:Int)->(x.toNat:Int)<=57->Rf.digit x.toNat=true:=by
  intro x h1 h2;simp[Rf.digit];omega
 rcases h with ⟨x,rfl,x1,x2,rfl⟩|⟨x,z,rfl,x1,x2,b,c,rfl⟩
 ·simp[Rf.most,a x x1 x2]
 simp[Rf.most,a x x1 x2,a z b c]
theorem Ez:∀(f:Nat) (g:Bool) (ts:List Tk) (V:Int),Is f g ts V->∃G,∀v,Rf.cnt (v+G) g (X8 ts)=some V:=by
 intro f
 induction f with
 |zero=>intro g ts V h;exact absurd h (by simp[Is])
 |succ f ih=>
  intro g ts V h;have E:=Cx _ _ _ _ h;cases g
  ·have h0:=h;unfold Is at h;rcases h with ⟨t,rfl,h2,h3,rfl⟩|⟨a,inn,b,rfl,h2,h3,x,Y,Z⟩|⟨q,t,A,rfl,h2,h3,x,rfl⟩
   ·refine⟨1,λv=>?_⟩;obtain⟨base,d,i,e2,e3,J⟩:=VI 1 [t] 1 (Or.inl ⟨t,rfl,h2,h3,rfl⟩);obtain⟨c,w,l,T,P,y,_⟩:=Xb h2;have o:X8 [t]=t.w:=by simp[X8]
    have hp:QG t.w:=by
     rcases h2 with h|h|h|h|h|h|h|h
     all_goals first|(exact absurd h.1 (by omega))|exact h.2
    have n:Rf.atom t.w=some t.w.length:=by
     rcases hp with ⟨c,l,hs⟩|⟨e,v0,l,H⟩|⟨e,l,I⟩
     ·unfold TH at hs;rw[l,Rf.atom]
      (try simp only)
      rw[if_neg (λe=>hs (by simp[e])),if_neg (λe=>hs (by simp[e])),if_neg (λe=>hs (by simp[e]))];rfl
     ·have:=H [];rw[List.append_nil]at this;rw[l,Rf.atom];simp only[if_true];rw[this];rfl
     obtain⟨fa,inn,hs⟩:=I [] 0;rw[List.append_nil]at hs;rw[l,Rf.atom];simp only;rw[if_neg (by decide),if_pos trivial,hs];simp
    have k:Rf.split t.w=some t.w.length:=by
     rw[Rf.split,n];simp only;rw[Rf.splitFrom,List.drop_length]
    rw[o,Rf.cnt.eq_def];simp only[k,List.drop_length];rw[l];simp only;rw[if_neg (λe=>by have:=y.1 e;omega)]
   ·obtain⟨G,D⟩:=ih true inn V Z;have N:a.w=[40]:=by
     rcases h2 with h|h|h|h|h|h|h|h
     all_goals first|(exact absurd h.1 (by omega))|exact h.2
    have O:b.w=[41]:=by
     rcases x with h|h|h|h|h|h|h|h
     all_goals first|(exact absurd h.1 (by omega))|exact h.2
    have o:X8 (a::(inn++[b]))=40::(X8 inn++[41]):=by
     rw[XX,X6,N];simp[X8,O]
    refine⟨G+1,λv=>?_⟩;obtain⟨C,c1,c2⟩:=BL f true inn V Z;have n:Rf.atom (40::(X8 inn++[41]))=some (40::(X8 inn++[41])).length:=by
     rw[Rf.atom];simp only;rw[if_neg (by decide),if_neg (by decide),if_pos trivial,Rf.groupFrom,Zw];simp only;rw[if_neg (by decide),if_neg (by decide),if_pos trivial];have aa:(X8 inn++[41]).length=(X8 inn).length+1:=by simp
     obtain⟨v,hv⟩:∃v,(X8 inn++[41]).length+1=(v+1)+C:=⟨(X8 inn).length+1-C,by omega⟩;have F:(40::(X8 inn++[41])).drop (0+1)=X8 inn++[41]:=by simp
     have Q:(40::(X8 inn++[41])).drop (0+1+(X8 inn).length)=[41]:=by rw[<-YV,F,List.drop_left]
     rw[hv,c2 _ _ (v+1) (0+1) [41] (by omega) F,Rf.groupFrom,Q];simp only;rw[if_neg (by decide),if_neg (by decide),if_neg (by decide),if_pos trivial,if_pos (by decide)];simp;omega
    have k:Rf.split (40::(X8 inn++[41]))=some (40::(X8 inn++[41])).length:=by
     rw[Rf.split,n];simp only;rw[Rf.splitFrom,List.drop_length]
    rw[o,show v+(G+1)=(v+G)+1 by omega,Rf.cnt.eq_def];have hx:(X8 inn++[41]).length-1=(X8 inn).length:=by simp
    have hy:¬(X8 inn++[41]).length=0:=by simp
    simp only[k,List.drop_length,if_true,if_neg hy,hx,List.take_left];exact D v
   obtain⟨G,D⟩:=ih false q A h2;obtain⟨base,d,i,e2,e3,J⟩:=VI f q A h2;obtain⟨c,w,l,T,P,y,m⟩:=Xb h3;have o:X8 (q++[t])=X8 q++t.w:=by rw[X6];simp[X8]
   have hl:=Pr (λX s=>(e2 X s).1);have k:Rf.split (X8 q++t.w)=some (X8 q).length:=by
    have ha:Rf.atom (X8 q++t.w)=some base.length:=by rw[i,Zs];exact J _
    rw[Rf.split,ha];simp only;rw[OF d e2 t h3 x _ base.length base.length _ (by rw[i,Zs,List.drop_left]) (by rw[Zl,l,i,Zl,List.length_cons];omega),i,Zl]
   refine⟨G+1,λv=>?_⟩;rw[o,show v+(G+1)=(v+G)+1 by omega,Rf.cnt.eq_def];simp only[k,List.drop_left,List.take_left];rw[l];simp only;rw[D];simp only;by_cases z:t.kd=8
   ·rw[if_pos (m.2 z),if_pos z,<-l,NZ (NY h3 z).2];rfl
   rw[if_neg (λe=>z (m.1 e)),if_neg z]
  unfold Is at h;rcases h with ⟨rfl,rfl⟩|⟨t,r,rfl,h2,h3,x⟩|⟨p,r,A,B,rfl,h2,h3,rfl,Y⟩
  ·exact⟨1,λv=>rfl⟩
  ·obtain⟨G,D⟩:=ih true r V x;have W:t.w=[124]:=by
    rcases h2 with h|h|h|h|h|h|h|h
    all_goals first|(exact absurd h.1 (by omega))|exact h.2
   refine⟨G+1,λv=>?_⟩;rw[XX,W,show v+(G+1)=(v+G)+1 by omega,List.singleton_append,Rf.cnt];simp only[if_true];exact D v
  obtain⟨u,L⟩:=ih false p A h2;obtain⟨Gr,M⟩:=ih true r B h3;obtain⟨base,d,i,e2,⟨c,w,hb,P⟩,J⟩:=VI f p A h2;have hl:=Pr (λX s=>(e2 X s).1);have S:Rf.piece (X8 p++X8 r)=some (X8 p).length:=by
   have ha:Rf.atom (X8 p++X8 r)=some base.length:=by rw[i,Zs];exact J _
   rw[Rf.piece,ha];simp only;rw[Ok d e2 _ base.length _ (X8 r) (by rw[i,Zs,List.drop_left]) (ES (λt o=>E t (by simp[o])) Y) (by rw[Zl,i,Zl];omega),i,Zl]
  refine⟨u+Gr+1,λv=>?_⟩;obtain⟨K,j⟩:∃K,X8 p++X8 r=c::K:=⟨_,by rw[i,hb];rfl⟩;have U:(c::K).take (X8 p).length=X8 p:=by rw[<-j,List.take_left]
  have R:(c::K).drop (X8 p).length=X8 r:=by rw[<-j,List.drop_left]
  rw[X6,j,show v+(u+Gr+1)=(v+u+Gr)+1 by omega,Rf.cnt]
  (try simp only)
  rw[if_neg P,<-j,S];simp only;rw[j,U,R,M (v+u),show v+u+Gr=(v+Gr)+u by omega,L]
end Go.Proofs.YtoaaklhpmhjhkaaGreat
