import Derived.Test.YtoaaklhpmhjhkabGreatC01
set_option maxRecDepth 100000
set_option maxHeartbeats 4000000
set_option linter.all false
namespace Go.Proofs.YtoaaklhpmhjhkabGreat
section
namespace Bm
def fl (A:Aut) (t:Nat):Int:=A.to (t/A.K) (t%A.K)
def kn (A:Aut):Nat->Nat
 |0=>1
 |t+1=>if fl A t=(kn A t:Int) then kn A t+1 else kn A t
theorem fl_at (A:Aut) {s k:Nat} (hk:k<A.K):fl A (s*A.K+k)=A.to s k:=by
 unfold fl;have hp:0<A.K:=by omega
 rw[Nat.mul_comm,Nat.mul_add_div hp,Nat.div_eq_of_lt hk,Nat.add_zero,Nat.mul_add_mod,Nat.mod_eq_of_lt hk]
structure Bfs (A:Aut):Prop where
 pos:0<A.N
 le:∀t,t<A.N*A.K->fl A t<=kn A t
 row:∀s,s<A.N->s<kn A (s*A.K)
 all:kn A (A.N*A.K)=A.N
variable {A:Aut}{k:Nat}
theorem time_lt {s:Nat} (hs:s<A.N) (hk:k<A.K):s*A.K+k<A.N*A.K:=by
 have:(s+1)*A.K<=A.N*A.K:=Nat.mul_le_mul_right _ hs;rw[Nat.add_mul]at this;omega
end Bm
open Go.RowKit
def Y5 (s:ByteArray) (i:Int):Int:=if 0<=i/\i<s.size then ((s.data.toList.getD i.toNat 0).toNat:Int) else -1
variable {s:ByteArray}{r:List UInt8}{K i k:Nat}{E G:Nat->N_}{c:UInt8}
theorem Ll {i:Int} (h:¬(0<=i/\i<s.size)):Y5 s i=-1:=by unfold Y5;rw[if_neg h]
theorem Ow {i:Int} (h:i.toNat<s.size) (h0:0<=i):Y5 s i=(s[i.toNat].toNat:Int):=by
 unfold Y5;rw[if_pos ⟨h0,by omega⟩,Np s _ h]
theorem Qx (s:ByteArray) (i:Int):-1<=Y5 s i/\Y5 s i<256:=by
 unfold Y5;split
 ·have:=(s.data.toList.getD i.toNat 0).toNat_lt;omega
 ·omega
namespace Pg
structure R where
 v:Int
 n:Int
 ok:Bool
def isMark (b:Int):Bool:=b==92 || b==46 || b==91 || b==93 || b==40 || b==41 || b==123 || b==125 || b==124 || b==42 || b==43 || b==63 || b==94 || b==45
def isInner (b:Int):Bool:=!(b==-1 || b==92 || b==91 || b==93 || b==94 || b==45)
def digitValue (b:Int):Int:=if 48<=b/\b<=57 then b-48 else -1
def hexValue (b:Int):Int:=if 97<=b/\b<=102 then b-97+10 else digitValue b
def kindOf (b:Int):Int:=
 if b=-1\/b=93\/b=125 then 0 else if b=40 then 2 else if b=41 then 3 else if b=124 then 4
 else if b=42 then 5 else if b=43 then 6 else if b=63 then 7 else if b=123 then 8 else 1
def isSuffix (k:Int):Bool:=k==5 || k==6 || k==7 || k==8
def opn (kd:Int):Int:=if kd=2 then 1 else if kd=3 then -1 else 0
theorem opn_bd (kd:Int):-1<=opn kd/\opn kd<=1:=by
 unfold opn
 repeat' split
 all_goals omega
def endsPiece (k:Int):Bool:=k==1 || k==3 || isSuffix k
def canStand (k before op:Int):Bool:=if k=0 then false else if k=3 then decide (0<op) else if isSuffix k then endsPiece before else true
def capped (n:Int):Int:=if 96<n then 97 else n
def readHex (g:Int->Int) (i:Int):R:=
 if hexValue (g i)<0 then ⟨0,i,false⟩
 else if hexValue (g (i+1))<0 then ⟨0,i+1,false⟩
 else ⟨hexValue (g i)*16+hexValue (g (i+1)),i+2,true⟩
def readEscape (g:Int->Int) (i:Int):R:=
 if g (i+1)=110 then ⟨10,i+2,true⟩ else if g (i+1)=116 then ⟨9,i+2,true⟩
 else if g (i+1)=120 then readHex g (i+2)
 else if isMark (g (i+1)) then ⟨g (i+1),i+2,true⟩ else ⟨0,i+1,false⟩
def readOne (g:Int->Int) (i:Int):R:=
 if g i=92 then readEscape g i else if isInner (g i) then ⟨g i,i+1,true⟩ else ⟨0,i,false⟩
structure I where
 lo:Int
 hi:Int
 n:Int
 ok:Bool
def readItem (g:Int->Int) (i:Int):I:=
 if (readOne g i).ok then
  (if g (readOne g i).n=45 then ⟨(readOne g i).v,(readOne g ((readOne g i).n+1)).v,(readOne g ((readOne g i).n+1)).n,(readOne g ((readOne g i).n+1)).ok⟩
  else ⟨(readOne g i).v,(readOne g i).v,(readOne g i).n,true⟩)
 else ⟨0,0,(readOne g i).n,false⟩
def readMost (g:Int->Int) (i least:Int):R:=
 if g i=125 then ⟨least,i+1,true⟩
 else if g i=44 then
  (if digitValue (g (i+1))<0 then ⟨0,i+1,false⟩
  else if g (i+2)=125 then ⟨digitValue (g (i+1)),i+3,true⟩ else ⟨0,i+2,false⟩)
 else ⟨0,i,false⟩
theorem hexValue_bd (b:Int):-1<=hexValue b/\hexValue b<16:=by
 unfold hexValue digitValue;split
 ·omega
 ·split<;>omega
theorem digitValue_bd (b:Int):-1<=digitValue b/\digitValue b<10:=by
 unfold digitValue;split<;>omega
theorem readHex_bd (g:Int->Int) (i:Int):0<=(readHex g i).v/\(readHex g i).v<256/\i<=(readHex g i).n/\(readHex g i).n<=i+2:=by
 have h1:=hexValue_bd (g i);have h2:=hexValue_bd (g (i+1));unfold readHex;split
 ·simp;omega
 ·split
  ·simp;omega
  ·simp;omega
theorem readEscape_bd (g:Int->Int) (i:Int) (hg:∀j,-1<=g j/\g j<256):0<=(readEscape g i).v/\(readEscape g i).v<256/\i<(readEscape g i).n/\(readEscape g i).n<=i+4:=by
 have h:=hg (i+1);have h2:=readHex_bd g (i+2);unfold readEscape;split
 ·simp;omega
 split
 ·simp;omega
 split
 ·omega
 split
 ·rename_i hm;have:0<=g (i+1):=by
   simp only[isMark,Bool.or_eq_true,beq_iff_eq]at hm;omega
  simp;omega
 ·simp;omega
theorem readOne_bd (g:Int->Int) (i:Int) (hg:∀j,-1<=g j/\g j<256):0<=(readOne g i).v/\(readOne g i).v<256/\i<=(readOne g i).n/\(readOne g i).n<=i+4/\((readOne g i).ok=true->i<(readOne g i).n):=by
 have h:=hg i;have h2:=readEscape_bd g i hg;unfold readOne;split
 ·omega
 split
 ·rename_i hm;have:g i≠-1:=by
   intro e;rw[e]at hm;simp[isInner]at hm
  simp;omega
 ·simp;omega
theorem readItem_bd (g:Int->Int) (i:Int) (hg:∀j,-1<=g j/\g j<256):i<=(readItem g i).n/\(readItem g i).n<=i+9/\((readItem g i).ok=true->i<(readItem g i).n/\0<=(readItem g i).lo/\(readItem g i).lo<256/\0<=(readItem g i).hi/\(readItem g i).hi<256):=by
 have h:=readOne_bd g i hg;have h2:=readOne_bd g ((readOne g i).n+1) hg;unfold readItem;split
 ·rename_i hok;have h3:=h.2.2.2.2 hok;split
  ·simp;omega
  ·simp;omega
 ·simp;omega
structure S where
 n:Int
 ok:Bool
 f:Nat->Bool
 fa:Int
def withF (f:Nat->Bool) (a b:Int):Nat->Bool:=fun k=>f k || (decide (a<=(k:Int))&&decide ((k:Int)<=b))
def setLoop (g:Int->Int) (len first:Int):Nat->Int->Int->(Nat->Bool)->S
 |0,e,fa,f=>⟨e,false,f,fa⟩
 |u+1,e,fa,f=>
  if e<len then
   (if g e=93/\first<e then ⟨e+1,true,f,fa⟩
   else if (readItem g e).ok then setLoop g len first u (readItem g e).n (if (readItem g e).hi<(readItem g e).lo/\fa=-1 then e else fa) (withF f (readItem g e).lo (readItem g e).hi)
   else ⟨(readItem g e).n,false,f,fa⟩)
  else ⟨len,false,f,fa⟩
def readSet (g:Int->Int) (len i:Int):S:=
 if g (i+1)=94 then (let r:=setLoop g len (i+2) (len.toNat+1) (i+2) (-1) (fun _=>false);⟨r.n,r.ok,fun k=>!r.f k,r.fa⟩)
 else setLoop g len (i+1) (len.toNat+1) (i+1) (-1) (fun _=>false)
end Pg
namespace Pg
def readCount (g:Int->Int) (i:Int):R:=if digitValue (g (i+1))<0 then ⟨0,i+1,false⟩ else readMost g (i+2) (digitValue (g (i+1)))
def countFalls (g:Int->Int) (i:Int):Int:=if (readCount g i).v<digitValue (g (i+1)) then i else -1
def readPlace (g:Int->Int) (len i:Int):S:=
 if g i=91 then readSet g len i
 else if g i=46 then ⟨i+1,true,fun k=>!(withF (fun _=>false) 10 10 k),-1⟩
 else if g i=92 then ⟨(readEscape g i).n,(readEscape g i).ok,withF (fun _=>false) (readEscape g i).v (readEscape g i).v,-1⟩
 else ⟨i+1,true,withF (fun _=>false) (g i) (g i),-1⟩
structure T where
 n:Int
 ok:Bool
 f:Nat->Bool
 mo:Int
 fa:Int
def readPart (g:Int->Int) (len i kind:Int):T:=
 if kind=1 then ⟨(readPlace g len i).n,(readPlace g len i).ok,(readPlace g len i).f,0,(readPlace g len i).fa⟩
 else if kind=8 then ⟨(readCount g i).n,(readCount g i).ok,fun _=>false,(readCount g i).v,countFalls g i⟩
 else ⟨i+1,true,fun _=>false,0,-1⟩
structure Pt where
 kd:Int
 pl:Int
 f:Nat->Bool
 le:Int
 mo:Int
 fa:Int
def Pt.strip (p:Pt):Pt:={ p with le:=0 }
structure PR where
 n:Int
 ok:Bool
 ps:List Pt
def opens (kd op:Int):Int:=if kd=2 then op+1 else if kd=3 then op-1 else op
theorem opens_opn (kd op:Int):opens kd op=op+opn kd:=by
 unfold opens opn;repeat' split
 all_goals omega
def partsFrom (g:Int->Int) (len:Int):Nat->Int->Int->Int->List Pt->PR
 |0,_,_,i,_=>⟨i,false,[]⟩
 |u+1,before,op,i,acc=>
  if i<len then
   (if canStand (kindOf (g i)) before op then
    (if (readPart g len i (kindOf (g i))).ok then partsFrom g len u (kindOf (g i)) (opens (kindOf (g i)) op) (readPart g len i (kindOf (g i))).n (acc++[⟨kindOf (g i),i,(readPart g len i (kindOf (g i))).f,0,(readPart g len i (kindOf (g i))).mo,(readPart g len i (kindOf (g i))).fa⟩])
    else ⟨(readPart g len i (kindOf (g i))).n,false,[]⟩)
   else ⟨i,false,[]⟩)
  else ⟨i,op==0,acc⟩
def readParts (g:Int->Int) (len:Int):PR:=partsFrom g len (len.toNat+1) 0 0 0 []
theorem setLoop_bd (g:Int->Int) (len first:Int) (hg:∀j,-1<=g j/\g j<256):∀(u:Nat) (e fa:Int) (f:Nat->Bool),(setLoop g len first u e fa f).ok=true->e<(setLoop g len first u e fa f).n/\(setLoop g len first u e fa f).n<=len:=by
 intro u
 induction u with
 |zero=>intro e fa f h;simp[setLoop]at h
 |succ u ih=>
  intro e fa f h;have hi:=readItem_bd g e hg;unfold setLoop at h ⊢;split
  ·rename_i hlt;rw[if_pos hlt]at h;split
   ·simp;omega
   ·rename_i hc;rw[if_neg hc]at h;split
    ·rename_i hok;rw[if_pos hok]at h;have:=ih _ _ _ h;have:=hi.2.2 hok;omega
    ·rename_i hok;rw[if_neg hok]at h;simp at h
  ·rename_i hlt;rw[if_neg hlt]at h;simp at h
theorem readSet_bd (g:Int->Int) (len i:Int) (hg:∀j,-1<=g j/\g j<256) (h:(readSet g len i).ok=true):i<(readSet g len i).n/\(readSet g len i).n<=len:=by
 unfold readSet at h ⊢;split
 ·rename_i hc;rw[if_pos hc]at h;have:=setLoop_bd g len (i+2) hg _ _ _ _ h;simp only;omega
 ·rename_i hc;rw[if_neg hc]at h;have:=setLoop_bd g len (i+1) hg _ _ _ _ h;omega
theorem readPart_bd (g:Int->Int) (len i kd:Int) (hg:∀j,-1<=g j/\g j<256) (hl:len<=40) (h:(readPart g len i kd).ok=true):i<(readPart g len i kd).n/\(readPart g len i kd).n<=i+5+40\/(readPart g len i kd).n<=40/\i<(readPart g len i kd).n:=by
 have he:=readEscape_bd g i hg;unfold readPart at h ⊢;split
 ·rename_i hc;rw[if_pos hc]at h;simp only at h ⊢;unfold readPlace at h ⊢;split
  ·rename_i h1;rw[if_pos h1]at h;have:=readSet_bd g len i hg h;omega
  ·rename_i h1;rw[if_neg h1]at h;split
   ·simp;omega
   ·split
    ·simp;omega
    ·simp;omega
 ·split
  ·simp only;unfold readCount readMost
   repeat' split
   all_goals (simp;omega)
  ·simp;omega
/-! What looks XM the parts. -/
def tooDeep:List Pt->Int->Int
 |[],_=>-1
 |p::r,op=>if 6<opens p.kd op then p.pl else tooDeep r (opens p.kd op)
def falling:List Pt->Int
 |[]=>-1
 |p::r=>if p.fa=-1 then falling r else p.fa
def matchless:List Pt->Int
 |[]=>-1
 |p::r=>if p.kd=1/\Rf.cntTo p.f 256=0 then p.pl else matchless r
structure C where
 ah:Int
 la:Int
 st:List Int
def cStep (c:C) (p:Pt):C:=
 if p.kd=1 then ⟨capped (c.ah+c.la),1,c.st⟩
 else if p.kd=2 then ⟨0,0,capped (c.ah+c.la)::c.st⟩
 else if p.kd=3 then
  (match c.st with
  |[]=>⟨0,capped (c.ah+c.la),[]⟩
  |x::r=>⟨x,capped (c.ah+c.la),r⟩)
 else if p.kd=4 then ⟨capped (c.ah+c.la),0,c.st⟩
 else if p.kd=8 then ⟨c.ah,capped (c.la*p.mo),c.st⟩
 else c
def cRun:List Pt->C->C
 |[],c=>c
 |p::r,c=>cRun r (cStep c p)
def countPlaces (ps:List Pt):Int:=capped ((cRun ps ⟨0,0,[]⟩).ah+(cRun ps ⟨0,0,[]⟩).la)
theorem tooDeep_strip (ps:List Pt):∀op,tooDeep (ps.map Pt.strip) op=tooDeep ps op:=by
 induction ps with
 |nil=>intro op;rfl
 |cons p r ih=>intro op;simp only[List.map_cons,tooDeep,Pt.strip];rw[ih]
theorem falling_strip (ps:List Pt):falling (ps.map Pt.strip)=falling ps:=by
 induction ps with
 |nil=>rfl
 |cons p r ih=>simp only[List.map_cons,falling,Pt.strip];rw[ih]
theorem matchless_strip (ps:List Pt):matchless (ps.map Pt.strip)=matchless ps:=by
 induction ps with
 |nil=>rfl
 |cons p r ih=>simp only[List.map_cons,matchless,Pt.strip];rw[ih]
theorem cRun_strip (ps:List Pt):∀c,cRun (ps.map Pt.strip) c=cRun ps c:=by
 induction ps with
 |nil=>intro c;rfl
 |cons p r ih=>intro c;simp only[List.map_cons,cRun];rw[ih];rfl
theorem countPlaces_strip (ps:List Pt):countPlaces (ps.map Pt.strip)=countPlaces ps:=by unfold countPlaces;rw[cRun_strip]
def wrong (g:Int->Int) (len:Int):Int × Int:=
 if 40<len then (2,0)
 else if (readParts g len).ok then
  (if tooDeep (readParts g len).ps 0=-1 then
   (if falling (readParts g len).ps=-1 then
    (if matchless (readParts g len).ps=-1 then (0,0) else (6,matchless (readParts g len).ps))
   else (5,falling (readParts g len).ps))
  else (4,tooDeep (readParts g len).ps 0))
 else (3,(readParts g len).n)
theorem readMost_bd (g:Int->Int) (i l:Int) (h0:0<=l) (h9:l<=9):0<=(readMost g i l).v/\(readMost g i l).v<=9:=by
 have:=digitValue_bd (g (i+1));unfold readMost
 repeat' split
 all_goals (simp;try omega)
theorem readPart_mo (g:Int->Int) (len i kd:Int):0<=(readPart g len i kd).mo/\(readPart g len i kd).mo<=9:=by
 unfold readPart;split
 ·simp
 split
 ·simp only;unfold readCount;have:=digitValue_bd (g (i+1));split
  ·simp
  ·exact readMost_bd _ _ _ (by omega) (by omega)
 ·simp
theorem partsFrom_mo (g:Int->Int) (len:Int):∀(u:Nat) (b op i:Int) (acc:List Pt),(∀p∈acc,0<=p.mo/\p.mo<=9)->∀p∈(partsFrom g len u b op i acc).ps,0<=p.mo/\p.mo<=9:=by
 intro u
 induction u with
 |zero=>intro b op i acc _ p hp;simp[partsFrom]at hp
 |succ u ih=>
  intro b op i acc hacc p hp;unfold partsFrom at hp;split at hp
  ·split at hp
   ·split at hp
    ·refine ih _ _ _ _ ?_ p hp;intro q hq;rcases List.mem_append.1 hq with h|h
     ·exact hacc q h
     ·simp only[List.mem_singleton]at h;subst h;exact readPart_mo _ _ _ _
    ·simp at hp
   ·simp at hp
  ·exact hacc p hp
theorem readParts_mo (g:Int->Int) (len:Int):∀p∈(readParts g len).ps,0<=p.mo/\p.mo<=9:=partsFrom_mo g len _ _ _ _ _ (by simp)
theorem capped_le (n:Int) (h:0<=n):0<=capped n/\capped n<=97:=by unfold capped;split<;>omega
end Pg
def at_ (t:List UInt8) (j:Nat):Int:=match t[j]? with|some c=>(c.toNat:Int)|none=>-1
theorem VT (s:ByteArray) (k j:Nat):Y5 s ((k:Int)+(j:Int))=at_ (s.data.toList.drop k) j:=by
 unfold at_ Y5;rw[List.getElem?_drop];by_cases h:k+j<s.size
 ·rw[if_pos ⟨by omega,by omega⟩,show((k:Int)+(j:Int)).toNat=k+j by omega,List.getElem?_eq_getElem (by simpa using h),List.getD_eq_getElem?_getD,List.getElem?_eq_getElem (by simpa using h)];rfl
 ·rw[if_neg (by omega),List.getElem?_eq_none (by simp;omega)]
theorem UF {t:List UInt8} (h:s.data.toList.drop k=t):Y5 s (k:Int)=at_ t 0:=by
 have:=VT s k 0;rw[h]at this;simpa using this
theorem M5 {t:List UInt8} (h:s.data.toList.drop k=t):Y5 s ((k:Int)+1)=at_ t 1:=by
 have:=VT s k 1;rw[h]at this;simpa using this
theorem GD {t:List UInt8} (h:s.data.toList.drop k=t):Y5 s ((k:Int)+2)=at_ t 2:=by
 have:=VT s k 2;rw[h]at this;simpa using this
theorem GE {t:List UInt8} (h:s.data.toList.drop k=t):Y5 s ((k:Int)+3)=at_ t 3:=by
 have:=VT s k 3;rw[h]at this;simpa using this
theorem FF {t:List UInt8} (h:s.data.toList.drop k=t):Y5 s ((k:Int)+4)=at_ t 4:=by
 have:=VT s k 4;rw[h]at this;simpa using this
theorem Ru (c:Int):Rf.hex c=decide (0<=Pg.hexValue c):=by
 unfold Rf.hex Rf.digit Pg.hexValue Pg.digitValue;rw[Bool.eq_iff_iff];simp only[Bool.or_eq_true,Bool.and_eq_true,decide_eq_true_eq];split
 ·constructor<;>intro<;>omega
 ·split
  ·constructor<;>intro<;>omega
  ·constructor<;>intro<;>omega
theorem Uj (c:Int):Rf.digit c=decide (0<=Pg.digitValue c):=by
 unfold Rf.digit Pg.digitValue;rw[Bool.eq_iff_iff];simp only[Bool.and_eq_true,decide_eq_true_eq];split<;>(constructor<;>intro<;>omega)
theorem PA (c:Int) (h:Rf.hex c=true):Rf.number c=Pg.hexValue c:=by
 unfold Rf.hex Rf.digit at h;simp only[Bool.or_eq_true,Bool.and_eq_true,decide_eq_true_eq]at h;unfold Rf.number Rf.digit Pg.hexValue Pg.digitValue;by_cases h1:97<=c/\c<=102
 ·rw[if_pos h1,if_neg (by simp;omega)]
 ·rw[if_neg h1,if_pos (by simp;omega),if_pos (by omega)]
theorem Py (c:Int):Rf.has Rf.marks c=Pg.isMark c:=by
 simp only[Rf.marks,Rf.has,Pg.isMark,Bool.or_false];rw[Bool.eq_iff_iff];simp only[Bool.or_eq_true,beq_iff_eq];constructor<;>intro h<;>(simp at h ⊢;omega)
theorem OM (c:Int) (h0:0<=c) (h92:c≠92):(!Rf.has Rf.notInner c)=Pg.isInner c:=by
 simp only[Rf.notInner,Rf.has,Pg.isInner,Bool.or_false];congr 1;rw[Bool.eq_iff_iff];simp only[Bool.or_eq_true,beq_iff_eq];constructor<;>intro h<;>(simp at h ⊢;omega)
theorem U9 (m b o:Int) (i:Nat) (h:1<m):Rf.formFrom m b o i []=i:=by simp[Rf.formFrom,h]
theorem XD {m b o:Int} (x:Rf.RS) (h:Rf.read m b o c.toNat=x) (hx:x.ok=true):Rf.formFrom m b o i (c::r)=Rf.formFrom x.m x.bk x.o (i+1) r:=by
 simp[Rf.formFrom,h,hx]
theorem Vn {m b o:Int} (x:Rf.RS) (h:Rf.read m b o c.toNat=x) (hx:x.ok=false):Rf.formFrom m b o i (c::r)=i:=by
 simp[Rf.formFrom,h,hx]
theorem Tj (b o:Int):Rf.read 2 b o 120=⟨true,3,b,o⟩:=by simp[Rf.read]
theorem Gt (b o c:Int) (h:c≠120) (hk:(c==110 || c==116 || Rf.has Rf.marks c)=true):Rf.read 2 b o c=⟨true,b,b,o⟩:=by
 simp only[Rf.read,if_neg h,hk];rfl
theorem Ii (b o c:Int) (h:c≠120) (hk:(c==110 || c==116 || Rf.has Rf.marks c)=false):Rf.read 2 b o c=⟨false,2,b,o⟩:=by
 simp only[Rf.read,if_neg h,hk];rfl
theorem O0 (b o c:Int):Rf.read 3 b o c=⟨Rf.hex c,if Rf.hex c then 4 else 3,b,o⟩:=by simp[Rf.read,Rf.to]
theorem Jz (b o c:Int):Rf.read 4 b o c=⟨Rf.hex c,if Rf.hex c then b else 4,b,o⟩:=by simp[Rf.read,Rf.to]
def Yk (m b o:Int):List UInt8->Option (Int × Int)
 |[]=>some (m,b)
 |c::r=>if (Rf.read m b o c.toNat).ok=true/\(Rf.read m b o c.toNat).o=o then Yk (Rf.read m b o c.toNat).m (Rf.read m b o c.toNat).bk o r else none
theorem YG {m b o:Int} (x:Rf.RS) (h:Rf.read m b o c.toNat=x) (hx:x.ok=true) (ho:x.o=o):Yk m b o (c::r)=Yk x.m x.bk o r:=by
 rw[Yk,h,if_pos ⟨hx,ho⟩]
theorem V9 {o:Int}:∀(w:List UInt8) (m b m' b':Int) (i:Nat) (r:List UInt8),Yk m b o w=some (m',b')->Rf.formFrom m b o i (w++r)=Rf.formFrom m' b' o (i+w.length) r
 |[],m,b,m',b',i,r,h=>by simp only[Yk,Option.some.injEq,Prod.mk.injEq]at h;rw[h.1,h.2];rfl
 |c::w,m,b,m',b',i,r,h=>by
  rw[Yk]at h;split at h
  ·rename_i hx;rw[List.cons_append,XD _ rfl hx.1,hx.2,V9 w _ _ _ _ _ _ h];congr 1;simp;omega
  ·cases h
theorem TU {o:Int} (ho:o<=6):∀(w:List UInt8) (m b m' b':Int) (i:Nat) (r:List UInt8),Yk m b o w=some (m',b')->Rf.deepFrom m b o i (w++r)=Rf.deepFrom m' b' o (i+w.length) r
 |[],m,b,m',b',i,r,h=>by simp only[Yk,Option.some.injEq,Prod.mk.injEq]at h;rw[h.1,h.2];rfl
 |c::w,m,b,m',b',i,r,h=>by
  rw[Yk]at h;split at h
  ·rename_i hx;rw[List.cons_append,Rf.deepFrom,hx.2,if_neg (by omega),TU ho w _ _ _ _ _ _ h];congr 1;simp;omega
  ·cases h
theorem Ve {o:Int}:∀(w:List UInt8) (m b m' b':Int) (r:List UInt8),Yk m b o w=some (m',b')->Yk m b o (w++r)=Yk m' b' o r
 |[],m,b,m',b',r,h=>by simp only[Yk,Option.some.injEq,Prod.mk.injEq]at h;rw[h.1,h.2];rfl
 |c::w,m,b,m',b',r,h=>by
  rw[Yk]at h;split at h
  ·rename_i hx;rw[List.cons_append,Yk,if_pos hx];exact Ve w _ _ _ _ _ h
  ·cases h
theorem Uk (s:ByteArray) (k:Nat) (t:List UInt8) (h:s.data.toList.drop k=92::t):
  (∃(n:Nat) (v:Int),Pg.readEscape (Y5 s) k=⟨v,((k+(n+1):Nat):Int),true⟩/\Rf.one (92::t)=some (v,n+1)/\n<=t.length/\∀b o,Yk 2 b o (t.take n)=some (b,b)) \/
  (∃n:Nat,(Pg.readEscape (Y5 s) k).ok=false/\(Pg.readEscape (Y5 s) k).n=((k+n:Nat):Int)/\∀b o,Rf.formFrom 2 b o (k+1) t=((k+n:Nat):Int)):=by
 have e1:=M5 h;have e2:=GD h;have e3:=GE h;have a21:(k:Int)+2+1=(k:Int)+3:=by omega
 rcases t with _|⟨d,t⟩
 ·right;refine⟨1,?_,?_,fun b o=>?_⟩
  ·simp[Pg.readEscape,e1,at_,Pg.isMark]
  ·simp[Pg.readEscape,e1,at_,Pg.isMark]
  ·rw[U9 _ _ _ _ (by omega)]
 have e1':Y5 s ((k:Int)+1)=d.toNat:=by rw[e1];rfl
 by_cases h120:d=120
 ·subst h120;have hE:Pg.readEscape (Y5 s) k=Pg.readHex (Y5 s) ((k:Int)+2):=by
   unfold Pg.readEscape;rw[e1'];rfl
  rcases t with _|⟨x,t⟩
  ·right;have hx:Pg.hexValue (Y5 s ((k:Int)+2))<0:=by rw[e2];simp[at_,Pg.hexValue,Pg.digitValue]
   refine⟨2,?_,?_,fun b o=>?_⟩
   ·rw[hE,Pg.readHex,if_pos hx]
   ·rw[hE,Pg.readHex,if_pos hx];simp
   ·rw[XD _ (Tj b o) rfl,U9 _ _ _ _ (by simp)]
  have e2':Y5 s ((k:Int)+2)=x.toNat:=by rw[e2];rfl
  by_cases hx:Pg.hexValue x.toNat<0
  ·right;have hx1:Rf.hex x.toNat=false:=by rw[Ru];simp;omega
   refine⟨2,?_,?_,fun b o=>?_⟩
   ·rw[hE,Pg.readHex,e2',if_pos hx]
   ·rw[hE,Pg.readHex,e2',if_pos hx];simp
   ·rw[XD _ (Tj b o) rfl,Vn _ (O0 b o _) hx1]
  have hx1:Rf.hex x.toNat=true:=by rw[Ru];simp;omega
  rcases t with _|⟨y,t⟩
  ·right;have hy:Pg.hexValue (Y5 s ((k:Int)+3))<0:=by rw[e3];simp[at_,Pg.hexValue,Pg.digitValue]
   refine⟨3,?_,?_,fun b o=>?_⟩
   ·rw[hE,Pg.readHex,e2',if_neg hx,a21,if_pos hy]
   ·rw[hE,Pg.readHex,e2',if_neg hx,a21,if_pos hy];simp
   ·rw[XD _ (Tj b o) rfl,XD _ (O0 b o _) hx1];simp only[hx1,if_true];rw[U9 _ _ _ _ (by simp)]
  have e3':Y5 s ((k:Int)+3)=y.toNat:=by rw[e3];rfl
  by_cases hy:Pg.hexValue y.toNat<0
  ·right;have hy1:Rf.hex y.toNat=false:=by rw[Ru];simp;omega
   refine⟨3,?_,?_,fun b o=>?_⟩
   ·rw[hE,Pg.readHex,e2',if_neg hx,a21,e3',if_pos hy]
   ·rw[hE,Pg.readHex,e2',if_neg hx,a21,e3',if_pos hy];simp
   ·rw[XD _ (Tj b o) rfl,XD _ (O0 b o _) hx1];simp only[hx1,if_true];rw[Vn _ (Jz b o _) hy1]
  ·left;have hy1:Rf.hex y.toNat=true:=by rw[Ru];simp;omega
   refine⟨3,Pg.hexValue x.toNat*16+Pg.hexValue y.toNat,?_,?_,by simp,fun b o=>?_⟩
   ·rw[hE,Pg.readHex,e2',if_neg hx,a21,e3',if_neg hy];rw[show(k:Int)+2+2=((k+(3+1):Nat):Int) by omega]
   ·simp[Rf.one,hx1,hy1,PA _ hx1,PA _ hy1]
   ·show Yk 2 b o [120,x,y]=_;have hq:Rf.read 2 b o ((120:UInt8).toNat:Int)=⟨true,3,b,o⟩:=Tj b o;rw[YG _ hq rfl rfl,YG _ (O0 b o _) hx1 rfl];simp only[hx1,if_true];rw[YG _ (Jz b o _) hy1 rfl];simp only[hy1,if_true];rfl
 ·have h120':(d.toNat:Int)≠120:=by
   intro e;exact h120 (UInt8.toNat_inj.1 (by simpa using (by omega:d.toNat=120)))
  cases hk:((d.toNat:Int)==110 || (d.toNat:Int)==116 || Rf.has Rf.marks d.toNat)
  ·right;have hk':=hk;rw[Py]at hk';simp only[Bool.or_eq_false_iff,beq_eq_false_iff_ne]at hk';refine⟨1,?_,?_,fun b o=>?_⟩
   ·unfold Pg.readEscape;rw[e1',if_neg hk'.1.1,if_neg hk'.1.2,if_neg h120',hk'.2];rfl
   ·unfold Pg.readEscape;rw[e1',if_neg hk'.1.1,if_neg hk'.1.2,if_neg h120',hk'.2];simp
   ·rw[Vn _ (Ii b o _ h120' hk) rfl]
  ·left;have hst:∀b o,Yk 2 b o ((d::t).take 1)=some (b,b):=fun b o=>by
    show Yk 2 b o [d]=_;rw[YG _ (Gt b o _ h120' hk) rfl rfl];rfl
   by_cases h110:d=110
   ·subst h110;exact⟨1,10,by unfold Pg.readEscape;rw[e1',if_pos (by decide),show(k:Int)+2=((k+(1+1):Nat):Int) by omega],by simp[Rf.one],by simp,hst⟩
   have h110':(d.toNat:Int)≠110:=by
    intro e;exact h110 (UInt8.toNat_inj.1 (by simpa using (by omega:d.toNat=110)))
   by_cases h116:d=116
   ·subst h116;exact⟨1,9,by unfold Pg.readEscape;rw[e1',if_neg (by decide),if_pos (by decide),show(k:Int)+2=((k+(1+1):Nat):Int) by omega],by simp[Rf.one],by simp,hst⟩
   have h116':(d.toNat:Int)≠116:=by
    intro e;exact h116 (UInt8.toNat_inj.1 (by simpa using (by omega:d.toNat=116)))
   have hm:Pg.isMark d.toNat=true:=by
    rw[<-Py];simpa[h110',h116']using hk
   exact⟨1,d.toNat,by unfold Pg.readEscape;rw[e1',if_neg h110',if_neg h116',if_neg h120',hm,if_pos rfl,show(k:Int)+2=((k+(1+1):Nat):Int) by omega],by simp[Rf.one,h110,h116,h120],by simp,hst⟩
theorem PB (s:ByteArray) (k:Nat):
  (∃(n:Nat) (v:Int),Pg.readOne (Y5 s) k=⟨v,((k+(n+1):Nat):Int),true⟩/\Rf.one (s.data.toList.drop k)=some (v,n+1)/\n+1<=(s.data.toList.drop k).length /\
   (∀c r,s.data.toList.drop k=c::r->c≠93/\c≠45/\c≠94) /\
   ∀m m' b o,(∀c r,s.data.toList.drop k=c::r->Rf.read m b o c.toNat=Rf.inner m b o c.toNat m')->∃b',Yk m b o ((s.data.toList.drop k).take (n+1))=some (m',b')) \/
  (∃n:Nat,(Pg.readOne (Y5 s) k).ok=false/\(Pg.readOne (Y5 s) k).n=((k+n:Nat):Int) /\
   ∀m m' b o,1<m->(∀c r,s.data.toList.drop k=c::r->Rf.read m b o c.toNat=Rf.inner m b o c.toNat m')->Rf.formFrom m b o k (s.data.toList.drop k)=((k+n:Nat):Int)):=by
 rcases hd:s.data.toList.drop k with _|⟨c,r⟩
 ·have e0:Y5 s (k:Int)=-1:=UF hd;right;refine⟨0,?_,?_,fun m m' b o hm _=>?_⟩
  ·simp[Pg.readOne,e0,Pg.isInner]
  ·simp[Pg.readOne,e0,Pg.isInner]
  ·rw[U9 _ _ _ _ hm];simp
 have e0:Y5 s (k:Int)=c.toNat:=by rw[UF hd];rfl
 by_cases h92:c=92
 ·subst h92;have hR:Pg.readOne (Y5 s) k=Pg.readEscape (Y5 s) k:=by rw[Pg.readOne,if_pos (by rw[e0];rfl)]
  rcases Uk s k r hd with ⟨n,v,h1,h2,h3,h4⟩|⟨n,h1,h2,h3⟩
  ·left;refine⟨n,v,by rw[hR,h1],h2,by simp;omega,fun c' r' he=>by cases he;decide,fun m m' b o hi=>⟨m',?_⟩⟩;have hx:Rf.read m b o ((92:UInt8).toNat:Int)=⟨true,2,m',o⟩:=by rw[hi 92 r rfl];rfl
   rw[List.take_succ_cons,YG _ hx rfl rfl];exact h4 m' o
  ·right;refine⟨n,by rw[hR,h1],by rw[hR,h2],fun m m' b o hm hi=>?_⟩;have hx:Rf.read m b o ((92:UInt8).toNat:Int)=⟨true,2,m',o⟩:=by rw[hi 92 r rfl];rfl
   rw[XD _ hx rfl];exact h3 m' o
 ·have h92':(c.toNat:Int)≠92:=by
   intro e;exact h92 (UInt8.toNat_inj.1 (by simpa using (by omega:c.toNat=92)))
  have hni:=OM c.toNat (by omega) h92';have hx:∀m m' b o,(∀c' r',c::r=c'::r'->Rf.read m b o c'.toNat=Rf.inner m b o c'.toNat m')->Rf.read m b o c.toNat=Rf.to m b o (Pg.isInner c.toNat) m':=fun m m' b o hi=>by
   rw[hi c r rfl,Rf.inner,if_neg h92',hni]
  cases hin:Pg.isInner c.toNat
  ·right;refine⟨0,?_,?_,fun m m' b o hm hi=>?_⟩
   ·rw[Pg.readOne,e0,if_neg h92',hin];rfl
   ·rw[Pg.readOne,e0,if_neg h92',hin];simp
   ·rw[Vn _ (hx m m' b o hi) (by rw[hin];rfl)];simp
  ·left;refine⟨0,c.toNat,?_,by simp[Rf.one,h92],by simp,?_,fun m m' b o hi=>⟨b,?_⟩⟩
   ·rw[Pg.readOne,e0,if_neg h92',hin,if_pos rfl,show(k:Int)+1=((k+(0+1):Nat):Int) by omega]
   ·intro c' r' he;cases he;refine⟨?_,?_,?_⟩<;>(intro e;subst e;simp[Pg.isInner]at hin)
   ·show Yk m b o [c]=_;rw[YG _ (hx m m' b o hi) (by rw[hin];rfl) rfl,hin];rfl
theorem Pu (u i:Nat) (fa:Int) (f:Nat->Bool):Rf.items u [] i fa f=none:=by cases u<;>rfl
theorem YW (l:List UInt8) (k n:Nat):(l.drop k).drop n=l.drop (k+n):=List.drop_drop
theorem Ml (s:ByteArray) (k:Nat) (m b o:Int) (hm:1<m) (hi:∀c r,s.data.toList.drop k=c::r->Rf.read m b o c.toNat=Rf.inner m b o c.toNat 11):
  (∃(n:Nat) (lo hi:Int),1<=n/\k+n<=s.size/\Pg.readItem (Y5 s) k=⟨lo,hi,((k+n:Nat):Int),true⟩ /\
   (∀u fa f,Rf.items (u+1) (s.data.toList.drop k) k fa f=Rf.items u (s.data.toList.drop (k+n)) (k+n) (if hi<lo/\fa<0 then (k:Int) else fa) (Pg.withF f lo hi)) /\
   ∃m2 b2,Yk m b o ((s.data.toList.drop k).take n)=some (m2,b2)/\((m2=11/\∀c r,s.data.toList.drop (k+n)=c::r->c≠45)\/m2=13)) \/
  (∃n:Nat,(Pg.readItem (Y5 s) k).ok=false/\(Pg.readItem (Y5 s) k).n=((k+n:Nat):Int)/\Rf.formFrom m b o k (s.data.toList.drop k)=((k+n:Nat):Int)):=by
 rcases PB s k with ⟨n,v,h1,h2,h3,h4,h5⟩|⟨n,h1,h2,h3⟩
 ·obtain⟨b1,hst⟩:=h5 m 11 b o hi;have hkn:k+(n+1)<=s.size:=by
   have:(s.data.toList.drop k).length=s.size-k:=by simp
   omega
  obtain⟨c,r,hcr⟩:∃c r,s.data.toList.drop k=c::r:=by
   rcases hd:s.data.toList.drop k with _|⟨c,r⟩
   ·rw[hd]at h3;simp at h3
   ·exact⟨c,r,rfl⟩
  obtain⟨hc93,_,_⟩:=h4 c r hcr;have hsplit:s.data.toList.drop k=(s.data.toList.drop k).take (n+1)++s.data.toList.drop (k+(n+1)):=by
   rw[<-YW,List.take_append_drop]
  have hlen:((s.data.toList.drop k).take (n+1)).length=n+1:=by rw[List.length_take];omega
  have hone:(Pg.readOne (Y5 s) k).ok=true:=by rw[h1]
  have hn:(Pg.readOne (Y5 s) k).n=((k+(n+1):Nat):Int):=by rw[h1]
  have hv:(Pg.readOne (Y5 s) k).v=v:=by rw[h1]
  by_cases h45:∃r2,s.data.toList.drop (k+(n+1))=45::r2
  ·obtain⟨r2,hr2⟩:=h45;have hb45:Y5 s ((k+(n+1):Nat):Int)=45:=by rw[UF hr2];rfl
   have hd1:s.data.toList.drop (k+(n+1)+1)=r2:=by rw[<-YW,hr2];rfl
   have h12:Rf.read 11 b1 o ((45:UInt8).toNat:Int)=⟨true,12,b1,o⟩:=by rfl
   have hi2:∀c r,s.data.toList.drop (k+(n+1)+1)=c::r->Rf.read 12 b1 o c.toNat=Rf.inner 12 b1 o c.toNat 13:=by
    intro c r _;simp[Rf.read,Rf.rest]
   have hit:Pg.readItem (Y5 s) k=⟨v,(Pg.readOne (Y5 s) (((k+(n+1)+1:Nat)):Int)).v,(Pg.readOne (Y5 s) (((k+(n+1)+1:Nat)):Int)).n,(Pg.readOne (Y5 s) (((k+(n+1)+1:Nat)):Int)).ok⟩:=by
    rw[Pg.readItem,if_pos hone,hn,if_pos hb45,hv];rw[show(((k+(n+1):Nat):Int)+1)=((k+(n+1)+1:Nat):Int) by omega]
   rcases PB s (k+(n+1)+1)with ⟨n2,v2,g1,g2,g3,g4,g5⟩|⟨n2,g1,g2,g3⟩
   ·left;obtain⟨b2,hst2⟩:=g5 12 13 b1 o hi2;have hkn2:k+(n+1)+1+(n2+1)<=s.size:=by
     have:(s.data.toList.drop (k+(n+1)+1)).length=s.size-(k+(n+1)+1):=by simp
     omega
    refine⟨n+1+1+(n2+1),v,v2,by omega,by omega,?_,fun u fa f=>?_,13,b2,?_,Or.inr rfl⟩
    ·rw[hit,g1,show k+(n+1)+1+(n2+1)=k+(n+1+1+(n2+1)) by omega]
    ·rw[hcr,Rf.items];simp only[if_neg hc93];rw[<-hcr,h2];simp only[YW,hr2];rw[if_pos trivial,<-hd1,g2];simp only[YW];rw[show k+(n+1)+1+(n2+1)=k+(n+1+1+(n2+1)) by omega];rfl
    ·have e1:(s.data.toList.drop k).take (n+1+1+(n2+1))=(s.data.toList.drop k).take (n+1)++(45::(s.data.toList.drop (k+(n+1)+1)).take (n2+1)):=by
      rw[show n+1+1+(n2+1)=(n+1)+(1+(n2+1)) by omega,List.take_add,YW,hr2,hd1,show 1+(n2+1)=(n2+1)+1 by omega,List.take_succ_cons]
     rw[e1,Ve _ _ _ _ _ _ hst,YG _ h12 rfl rfl];exact hst2
   ·right;refine⟨n+1+1+n2,by rw[hit];exact g1,by rw[hit];simp only[g2];omega,?_⟩;rw[hsplit,V9 _ _ _ _ _ _ _ hst,hlen,hr2,XD _ h12 rfl,<-hd1,g3 12 13 b1 o (by omega) hi2];omega
  ·left;have hb45:Y5 s ((k+(n+1):Nat):Int)≠45:=by
    rcases hd:s.data.toList.drop (k+(n+1))with _|⟨c2,r2⟩
    ·rw[UF hd];simp[at_]
    ·rw[UF hd];simp only[at_,List.getElem?_cons_zero];intro e;apply h45;have:c2=45:=UInt8.toNat_inj.1 (by simpa using (by omega:c2.toNat=45));exact⟨r2,by rw[hd,this]⟩
   refine⟨n+1,v,v,by omega,hkn,?_,fun u fa f=>?_,11,b1,hst,Or.inl ⟨rfl,?_⟩⟩
   ·rw[Pg.readItem,if_pos hone,hn,if_neg hb45,hv]
   ·rw[hcr,Rf.items];simp only[if_neg hc93];rw[<-hcr,h2];simp only[YW];rcases hd:s.data.toList.drop (k+(n+1))with _|⟨c2,r2⟩
    ·rw[Pu]
    ·simp only;rw[if_neg (fun e=>h45 ⟨r2,by rw[hd,e]⟩),if_neg (by omega)];rfl
   ·intro c2 r2 he e;exact h45 ⟨r2,by rw[he,e]⟩
 ·right;refine⟨n,?_,?_,h3 m 11 b o hm hi⟩
  ·rw[Pg.readItem,h1];rfl
  ·rw[Pg.readItem,h1];exact h2
theorem XY (h:s.data.toList.drop k=c::r):k<s.size:=by
 rcases Nat.lt_or_ge k s.size with h'|h'
 ·exact h'
 ·rw[List.drop_eq_nil_of_le (by simpa using h')]at h;cases h
theorem TV (l:List UInt8) (k n j:Nat):(l.drop k).take (n+j)=(l.drop k).take n++(l.drop (k+n)).take j:=by
 rw[List.take_add,List.drop_drop]
theorem QR (s:ByteArray) (first:Nat) (o:Int):∀(u k:Nat) (fa:Int) (f:Nat->Bool) (m b:Int),s.size<u+k->k<=s.size->-1<=fa ->
  ((k=first/\(m=10\/(m=9/\∀c r,s.data.toList.drop k=c::r->c≠94)))\/(first<k/\((m=11/\∀c r,s.data.toList.drop k=c::r->c≠45)\/m=13))) ->
  (∃(j:Nat) (F:Nat->Bool) (FA:Int),k<=j/\j<s.size/\Pg.setLoop (Y5 s) s.size first u k fa f=⟨(j:Int)+1,true,F,FA⟩/\-1<=FA/\(∀v,s.size<v+k->Rf.items v (s.data.toList.drop k) k fa f=some (j,FA,F))/\∃b',Yk m b o ((s.data.toList.drop k).take (j+1-k))=some (1,b')) \/
  ((Pg.setLoop (Y5 s) s.size first u k fa f).ok=false/\Rf.formFrom m b o k (s.data.toList.drop k)=(Pg.setLoop (Y5 s) s.size first u k fa f).n):=by
 intro u
 induction u with
 |zero=>intro k fa f m b h1 h2;omega
 |succ u ih=>
  intro k fa f m b hu hk hfa hcase;have hm1:1<m:=by rcases hcase with ⟨_,h|h⟩|⟨_,h|h⟩<;>omega
  rcases hd:s.data.toList.drop k with _|⟨c,r⟩
  ·right;have hks:k=s.size:=by
    have:s.size<=k:=by simpa using hd
    omega
   have hge:¬(k:Int)<(s.size:Int):=by omega
   rw[Pg.setLoop,if_neg hge];refine⟨rfl,?_⟩;rw[U9 _ _ _ _ hm1,hks]
  have hlt:=XY hd;have hlti:(k:Int)<(s.size:Int):=by omega
  have hbk:Y5 s (k:Int)=c.toNat:=by rw[UF hd];rfl
  by_cases h93:c=93/\first<k
  ·left;obtain⟨rfl,hf⟩:=h93;have hm:m=11\/m=13:=by
    rcases hcase with ⟨h,_⟩|⟨_,h|h⟩
    ·omega
    ·exact Or.inl h.1
    ·exact Or.inr h
   refine⟨k,f,fa,Nat.le_refl _,hlt,?_,hfa,fun v hv=>?_,b,?_⟩
   ·rw[Pg.setLoop,if_pos hlti,if_pos ⟨by rw[hbk];rfl,by omega⟩]
   ·rcases v with _|v
    ·omega
    ·rfl
   ·rw[show k+1-k=1 by omega];show Yk m b o [93]=_;have hx:Rf.read m b o ((93:UInt8).toNat:Int)=⟨true,1,b,o⟩:=by
     rcases hm with rfl|rfl<;>rfl
    rw[YG _ hx rfl rfl];rfl
  ·have hi:∀c' r',s.data.toList.drop k=c'::r'->Rf.read m b o c'.toNat=Rf.inner m b o c'.toNat 11:=by
    intro c' r' he;rw[hd]at he;cases he;have ne:∀d:UInt8,c≠d->(c.toNat:Int)≠d.toNat:=fun d h e=>h (UInt8.toNat_inj.1 (by omega))
    rcases hcase with ⟨_,h|⟨h,h2⟩⟩|⟨hf,⟨h,h2⟩|h⟩
    ·subst h;simp[Rf.read,Rf.rest]
    ·subst h;have:=ne 94 (h2 c r hd);have h':(c.toNat:Int)≠94:=this;simp only[Rf.read,Rf.rest];rw[if_neg h'];simp
    ·subst h;have h1:(c.toNat:Int)≠45:=ne 45 (h2 c r hd);have h3:(c.toNat:Int)≠93:=ne 93 (fun e=>h93 ⟨e,hf⟩);simp only[Rf.read,Rf.rest];rw[if_neg h1,if_neg h3];simp
    ·subst h;have h3:(c.toNat:Int)≠93:=ne 93 (fun e=>h93 ⟨e,hf⟩);simp only[Rf.read,Rf.rest];rw[if_neg h3];simp
   have hno:¬(Y5 s (k:Int)=93/\(first:Int)<k):=by
    rintro ⟨h1,h2⟩;rw[hbk]at h1;exact h93 ⟨UInt8.toNat_inj.1 (by simpa using (by omega:c.toNat=93)),by omega⟩
   have hL:Pg.setLoop (Y5 s) s.size first (u+1) k fa f=if (Pg.readItem (Y5 s) k).ok then Pg.setLoop (Y5 s) s.size first u (Pg.readItem (Y5 s) k).n (if (Pg.readItem (Y5 s) k).hi<(Pg.readItem (Y5 s) k).lo/\fa=-1 then (k:Int) else fa) (Pg.withF f (Pg.readItem (Y5 s) k).lo (Pg.readItem (Y5 s) k).hi) else ⟨(Pg.readItem (Y5 s) k).n,false,f,fa⟩:=by
    rw[Pg.setLoop,if_pos hlti,if_neg hno]
   rcases Ml s k m b o hm1 hi with ⟨n,lo,hi',hn1,hn2,hit,hitems,m2,b2,hst,hm2⟩|⟨n,h1,h2,h3⟩
   ·have hL2:Pg.setLoop (Y5 s) s.size first (u+1) k fa f=Pg.setLoop (Y5 s) s.size first u ((k+n:Nat):Int) (if hi'<lo/\fa<0 then (k:Int) else fa) (Pg.withF f lo hi'):=by
     rw[hL,hit];simp only[if_true];have:(fa=-1)<->(fa<0):=by omega
     simp only[this]
    have hfa':-1<=(if hi'<lo/\fa<0 then (k:Int) else fa):=by split<;>omega
    have hcase2:((k+n=first/\(m2=10\/(m2=9/\∀c r,s.data.toList.drop (k+n)=c::r->c≠94)))\/(first<k+n/\((m2=11/\∀c r,s.data.toList.drop (k+n)=c::r->c≠45)\/m2=13))):=by
     right;refine⟨?_,hm2⟩;rcases hcase with ⟨h,_⟩|⟨h,_⟩<;>omega
    rcases ih (k+n) _ (Pg.withF f lo hi') m2 b2 (by omega) hn2 hfa' hcase2 with ⟨j,F,FA,g1,g2,g3,g4,g5,b',g6⟩|⟨g1,g2⟩
    ·left;refine⟨j,F,FA,by omega,g2,by rw[hL2,g3],g4,fun v hv=>?_,b',?_⟩
     ·rcases v with _|v
      ·omega
      ·rw[<-hd,hitems];exact g5 v (by omega)
     ·rw[<-hd,show j+1-k=n+(j+1-(k+n)) by omega,TV,Ve _ _ _ _ _ _ hst];exact g6
    ·right;refine⟨by rw[hL2];exact g1,?_⟩;have hsp:s.data.toList.drop k=(s.data.toList.drop k).take n++s.data.toList.drop (k+n):=by rw[<-YW,List.take_append_drop]
     have hlen:((s.data.toList.drop k).take n).length=n:=by rw[List.length_take];simp;omega
     rw[hL2,<-g2,<-hd];rw[hsp,V9 _ _ _ _ _ _ _ hst,hlen]
   ·right;rw[hL,h1];refine⟨rfl,?_⟩;rw[<-hd];simp only[h2];exact h3
theorem Sz (s:ByteArray) (i:Nat) (t:List UInt8) (m b o:Int) (hm:m=0\/m=1) (h:s.data.toList.drop i=91::t):
  (∃(n:Nat) (F:Nat->Bool) (FA:Int),i+2<=n/\n<=s.size/\Pg.readSet (Y5 s) s.size i=⟨(n:Int),true,F,FA⟩/\Rf.set t i=some (n,FA,F)/\-1<=FA/\∃b',Yk m b o ((s.data.toList.drop i).take (n-i))=some (1,b')) \/
  ((Pg.readSet (Y5 s) s.size i).ok=false/\Rf.formFrom m b o i (s.data.toList.drop i)=(Pg.readSet (Y5 s) s.size i).n):=by
 have hlt:=XY h;have h9:Rf.read m b o ((91:UInt8).toNat:Int)=⟨true,9,b,o⟩:=by rcases hm with rfl|rfl<;>rfl
 have hd1:s.data.toList.drop (i+1)=t:=by rw[<-YW,h];rfl
 by_cases h94:∃r,t=94::r
 ·obtain⟨r,rfl⟩:=h94;have hlt1:=XY hd1;have hd2:s.data.toList.drop (i+2)=r:=by rw[show i+2=i+1+1 by omega,<-YW,hd1];rfl
  have hb:Y5 s ((i:Int)+1)=94:=by rw[M5 h];rfl
  have h10:Rf.read 9 b o ((94:UInt8).toNat:Int)=⟨true,10,b,o⟩:=rfl;have hrl:r.length=s.size-(i+2):=by rw[<-hd2];simp
  have hR:Pg.readSet (Y5 s) s.size i=⟨(Pg.setLoop (Y5 s) s.size ((i+2:Nat):Int) (s.size+1) ((i+2:Nat):Int) (-1) (fun _=>false)).n,(Pg.setLoop (Y5 s) s.size ((i+2:Nat):Int) (s.size+1) ((i+2:Nat):Int) (-1) (fun _=>false)).ok,fun k=>!(Pg.setLoop (Y5 s) s.size ((i+2:Nat):Int) (s.size+1) ((i+2:Nat):Int) (-1) (fun _=>false)).f k,(Pg.setLoop (Y5 s) s.size ((i+2:Nat):Int) (s.size+1) ((i+2:Nat):Int) (-1) (fun _=>false)).fa⟩:=by
   rw[Pg.readSet,if_pos hb];rfl
  rcases QR s (i+2) o (s.size+1) (i+2) (-1) (fun _=>false) 10 b (by omega) (by omega) (by omega) (Or.inl ⟨rfl,Or.inl rfl⟩)with ⟨j,F,FA,g1,g2,g3,g4,g5,b',g6⟩|⟨g1,g2⟩
  ·left;refine⟨j+1,fun k=>!F k,FA,by omega,by omega,by rw[hR,g3];rfl,?_,g4,b',?_⟩
   ·have:=g5 (r.length+1) (by omega);rw[hd2]at this;simp only[Rf.set,if_true,this,Option.map_some];simp
   ·rw[show j+1-i=2+(j+1-(i+2)) by omega,TV,h];show Yk m b o (91::94::((s.data.toList.drop (i+2)).take (j+1-(i+2))))=_;rw[YG _ h9 rfl rfl,YG _ h10 rfl rfl];exact g6
  ·right;refine⟨by rw[hR];exact g1,?_⟩;rw[h,XD _ h9 rfl,XD _ h10 rfl,hR];simp only[<-g2,hd2]
 ·have hb:Y5 s ((i:Int)+1)≠94:=by
   rw[M5 h];rcases t with _|⟨c,r⟩
   ·simp[at_]
   ·simp only[at_,List.getElem?_cons_succ,List.getElem?_cons_zero];intro e;exact h94 ⟨r,by rw[show c=94 from UInt8.toNat_inj.1 (by simpa using (by omega:c.toNat=94))]⟩
  have hR:Pg.readSet (Y5 s) s.size i=Pg.setLoop (Y5 s) s.size ((i+1:Nat):Int) (s.size+1) ((i+1:Nat):Int) (-1) (fun _=>false):=by
   rw[Pg.readSet,if_neg hb];rfl
  have hne:∀c r,s.data.toList.drop (i+1)=c::r->c≠94:=by
   intro c r he e;exact h94 ⟨r,by rw[<-hd1,he,e]⟩
  rcases QR s (i+1) o (s.size+1) (i+1) (-1) (fun _=>false) 9 b (by omega) (by omega) (by omega) (Or.inl ⟨rfl,Or.inr ⟨rfl,hne⟩⟩)with ⟨j,F,FA,g1,g2,g3,g4,g5,b',g6⟩|⟨g1,g2⟩
  ·left;refine⟨j+1,F,FA,by omega,by omega,by rw[hR,g3];rfl,?_,g4,b',?_⟩
   ·rcases t with _|⟨c,r⟩
    ·rw[hd1]at g5;have:=g5 (s.size+1) (by omega);rw[Pu]at this;cases this
    ·have hrl:(c::r).length=s.size-(i+1):=by rw[<-hd1];simp
     have:=g5 (r.length+2) (by simp at hrl;omega);rw[hd1]at this;have hc94:=hne c r hd1;simp only[Rf.set,if_neg hc94,this,Option.map_some];simp
   ·rw[show j+1-i=1+(j+1-(i+1)) by omega,TV,h];show Yk m b o (91::((s.data.toList.drop (i+1)).take (j+1-(i+1))))=_;rw[YG _ h9 rfl rfl];exact g6
  ·right;refine⟨by rw[hR];exact g1,?_⟩;rw[h,XD _ h9 rfl,hR,<-g2,hd1]
end
section
open Bm
structure Qq (E F G:Nat->Nat->Bool) (K:Nat):Prop where
 e:Eqv E 256
 k:K=cnt E 256
 f:Eqv F K
 g:Eqv G 256
 x:∀a b,a<256->b<256->G a b=F (idx E a) (idx E b)
variable {K:Nat}{E G:Nat->N_}
theorem Qq.kk {F:Nat->Nat->Bool} (h:Qq E F G K) {b:Nat} (hb:b<256):idx E b<K:=by
 rw[h.k];exact idx_lt h.e hb
theorem Qq.rep {F:Nat->Nat->Bool} (h:Qq E F G K) {k:Nat} (hk:k<K):∃r,(reps E 256)[k]?=some r/\r<256/\least E r=r/\cnt E r=k/\idx E r=k:=by
 rw[h.k]at hk;refine⟨_,List.getElem?_eq_getElem hk,?_⟩;obtain⟨h1,h2,h3⟩:=reps_mem (List.getElem?_eq_getElem hk);exact⟨h1,h2,h3,by rw[idx_rep h2];exact h3⟩
theorem Qq.lst {F:Nat->Nat->Bool} (h:Qq E F G K) {b:Nat} (hb:b<256):(reps E 256)[least F (idx E b)]?=some (least G b)/\least E (least G b)=least G b/\cnt E (least G b)=least F (idx E b):=by
 have hk:=h.kk hb;have hl:=least_le F (idx E b);obtain⟨r,h1,h2,h3,h4,h5⟩:=h.rep (k:=least F (idx E b)) (by omega);have hr:least G b=r:=by
  refine least_eq ?_ (fun c hc=>?_) (least_like h.g hb)
  ·rw[h.x r b h2 hb,h5];exact least_like h.f hk
  ·rw[h.x c b (by omega) hb];refine least_min ?_;rw[<-h4];have hc2:c<256:=by omega
   exact cnt_lt (least_idem h.e hc2) (by have:=least_le E c;omega)
 rw[hr];exact⟨h1,h3,h4⟩
theorem Qq.reps_to {F:Nat->Nat->Bool} (h:Qq E F G K):∀n,n<=256->reps G n=(reps F (cnt E n)).map fun k=>(reps E 256).getD k 0
 |0,_=>rfl
 |n+1,hn=>by
  have ih:=h.reps_to n (by omega);obtain⟨h1,h2,h3⟩:=h.lst (b:=n) (by omega);rw[reps_succ,ih];by_cases he:least E n=n
  ·have hid:=idx_rep he;rw[cnt_succ,if_pos he,reps_succ F,List.map_append];congr 1;have hg:(reps E 256).getD (cnt E n) 0=n:=by rw[List.getD_eq_getElem?_getD,reps_get E 256 n (by omega) he];rfl
   by_cases hG:least G n=n
   ·rw[hG]at h3;rw[if_pos hG,if_pos (by rw[hid]at h3;exact h3.symm)];show [n]=[(reps E 256).getD (cnt E n) 0];rw[hg]
   ·rw[if_neg hG,if_neg (fun e=>hG ?_)]
    ·rfl
    ·rw[hid,e]at h3;exact cnt_inj h2 he h3
  ·rw[cnt_succ,if_neg he,Nat.add_zero,if_neg (fun e=>he (by rw[e]at h2;exact h2)),List.append_nil]
theorem Qq.ix {F:Nat->Nat->Bool} (h:Qq E F G K) {b:Nat} (hb:b<256):idx G b=idx F (idx E b):=by
 obtain⟨h1,h2,h3⟩:=h.lst hb;have hle:=least_le G b;unfold idx;unfold idx at h3;rw[<-h3];have h4:=h.reps_to (least G b) (by omega);have h5:=congrArg List.length h4;rw[List.length_map]at h5;exact h5
end
end Go.Proofs.YtoaaklhpmhjhkabGreat
