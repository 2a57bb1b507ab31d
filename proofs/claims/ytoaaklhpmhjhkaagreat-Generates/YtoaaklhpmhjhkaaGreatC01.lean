import Derived.WalkKit
import Derived.Test.YtoaaklhpmhjhkaaGreatSk
set_option maxRecDepth 100000
set_option maxHeartbeats 4000000
set_option linter.all false
namespace Go.Proofs.YtoaaklhpmhjhkaaGreat
section
theorem NO (s:ByteArray) (k:Nat) (h:k<s.size):s[k]=s.data.toList.getD k 0:=by
 have a:k<s.data.toList.length:=by simpa using h
 rw[Zf,Zd a];rfl
theorem Sp (s:ByteArray) (k:Nat) (h:k<s.size):s.data.toList.drop k=s[k]::s.data.toList.drop (k+1):=by
 rw[List.drop_eq_getElem_cons (by simpa using h)];rfl
theorem YY {k:IntKind}{a b:Int} (h:a=b):Ending.returned (.int k a)=.returned (.int k b):=by rw[h]
theorem YN {a b:Bool} (h:a=b):Ending.returned (.bool a)=.returned (.bool b):=by rw[h]
namespace Rf
def digit (c:Int):Bool:=decide (48<=c)&&decide (c<=57)
def hex (c:Int):Bool:=digit c || (decide (97<=c)&&decide (c<=102))
def has:List UInt8->Int->Bool
 |[],_=>false
 |x::r,c=>((x.toNat:Int)==c) || has r c
def number (c:Int):Int:=if digit c then c-48 else c-97+10
theorem number_lt (c:Int) (h:hex c=true):0<=number c/\number c<16:=by
 unfold number;cases hd:digit c
 ·have:97<=c/\c<=102:=by simpa[hex,hd]using h
  simp;omega
 have:48<=c/\c<=57:=by simpa[digit]using hd
 simp;omega
structure RS where
 ok:Bool
 m:Int
 bk:Int
 o:Int
def marks:List UInt8:=[92,46,91,93,40,41,123,125,124,42,43,63,94,45]
def notInner:List UInt8:=[91,93,94,45]
def to (m bk o:Int) (ok:Bool) (m':Int):RS:=⟨ok,if ok then m' else m,bk,o⟩
def inner (m bk o c m':Int):RS:=if c=92 then ⟨true,2,m',o⟩ else to m bk o (!has notInner c) m'
def outside (m bk o c:Int):RS:=
 if c=92 then ⟨true,2,1,o⟩
 else if c=91 then ⟨true,9,bk,o⟩
 else if c=40 then ⟨true,0,bk,o+1⟩
 else if c=41 then to m bk (o-1) (decide (1<=o)) 1
 else if c=124 then ⟨true,0,bk,o⟩
 else if c=42\/c=43\/c=63 then ⟨m==1,m,bk,o⟩
 else if c=123 then to m bk o (m==1) 5
 else if c=93\/c=125 then ⟨false,m,bk,o⟩
 else ⟨true,1,bk,o⟩
def rest (m bk o c:Int):RS:=
 if m=9 then (if c=94 then ⟨true,10,bk,o⟩ else inner m bk o c 11)
 else if m=10 then inner m bk o c 11
 else if m=11 then (if c=45 then ⟨true,12,bk,o⟩ else if c=93 then ⟨true,1,bk,o⟩ else inner m bk o c 11)
 else if m=12 then inner m bk o c 13
 else if m=13 then (if c=93 then ⟨true,1,bk,o⟩ else inner m bk o c 11)
 else outside m bk o c
def read (m bk o c:Int):RS:=
 if m=2 then (if c=120 then ⟨true,3,bk,o⟩ else to m bk o (c==110 || c==116 || has marks c) bk)
 else if m=3 then to m bk o (hex c) 4
 else if m=4 then to m bk o (hex c) bk
 else if m=5 then to m bk o (digit c) 6
 else if m=6 then (if c=44 then ⟨true,7,bk,o⟩ else to m bk o (c==125) 1)
 else if m=7 then to m bk o (digit c) 8
 else if m=8 then to m bk o (c==125) 1
 else rest m bk o c
def formFrom (m bk o:Int) (i:Nat):List UInt8->Int
 |[]=>if 0<o\/1<m then i else -1
 |c::r=>let x:=read m bk o c.toNat;if x.ok then formFrom x.m x.bk x.o (i+1) r else i
def form (l:List UInt8):Int:=formFrom 0 0 0 0 l
def deepFrom (m bk o:Int) (i:Nat):List UInt8->Int
 |[]=>-1
 |c::r=>let x:=read m bk o c.toNat;if 6<x.o then i else deepFrom x.m x.bk x.o (i+1) r
def deep (l:List UInt8):Int:=deepFrom 0 0 0 0 l
end Rf
open Go.RowKit
variable {s:ByteArray}{fa fb:Int}{kids ks:List Nat}{r:List UInt8}{K N N' P b c h i j k kind lo m n n' q t:Nat}{f inb inn nl:N_}{E G bg:Nat->N_}{toN:Nat->Nat->Nat}
theorem YT {c:UInt8} (h:s.data.toList.drop k=c::r):∃hk:k<s.size,s[k]=c/\s.data.toList.drop (k+1)=r:=by
 have hk:k<s.size:=by
  rcases ZD k s.size with a|a
  ·exact a
  rw[List.drop_eq_nil_of_le (by simpa using a)]at h;cases h
 refine⟨hk,?_⟩;rw[Sp s k hk]at h;injection h with h1 h2;exact⟨h1,h2⟩
theorem Yn {c d:UInt8} (h:c≠d):((c.toNat:Int)==(d.toNat:Int))=false:=by
 rw[beq_eq_false_iff_ne];intro a;exact h (UInt8.toNat_inj.1 (by omega))
theorem QO (c:UInt8):(c.toNat:Int)<256:=by have:=c.toNat_lt;omega
theorem Qf (c:UInt8):wrap64 (c.toNat:Int)=c.toNat:=by
 have:=c.toNat_lt;unfold wrap64;omega
namespace Rf
def one:List UInt8->Option (Int × Nat)
 |[]=>none
 |c::r=>
  if c=92 then
   match r with
   |[]=>none
   |d::r'=>
    if d=110 then some (10,2) else if d=116 then some (9,2)
    else if d=120 then
     match r' with
     |x::y::_=>if hex x.toNat&&hex y.toNat then some (number x.toNat*16+number y.toNat,4) else none
     |_=>none
    else some (d.toNat,2)
  else some (c.toNat,1)
def items:Nat->List UInt8->Nat->Int->(Nat->Bool)->Option (Nat × Int × (Nat->Bool))
 |0,_,_,_,_=>none
 |f+1,l,i,falls,inn=>
  match l with
  |[]=>none
  |c::_=>
   if c=93 then some (i,falls,inn)
   else match one l with
    |none=>none
    |some (a,n)=>
     match l.drop n with
     |[]=>none
     |d::l'=>
      if d=45 then
       match one l' with
       |none=>none
       |some (b,n')=>items f (l'.drop n') (i+n+1+n') (if b<a/\falls<0 then i else falls) (λk=>inn k || (decide (a<=k)&&decide ((k:Int)<=b)))
      else items f (d::l') (i+n) falls (λk=>inn k || (decide (a<=k)&&decide ((k:Int)<=a)))
def set (l:List UInt8) (i:Nat):Option (Nat × Int × (Nat->Bool)):=
 match l with
 |[]=>none
 |c::r=>
  if c=94 then (items (r.length+1) r (i+2) (-1) (λ_=>false)).map λx=>(x.1+1,x.2.1,λk=>x.2.2 k != true)
  else (items (r.length+2) (c::r) (i+1) (-1) (λ_=>false)).map λx=>(x.1+1,x.2.1,λk=>x.2.2 k != false)
theorem one_bd {l:List UInt8}{v:Int} (h:one l=some (v,n)):0<=v/\v<256/\1<=n/\n<=4:=by
 unfold one at h;rcases l with _|⟨c,r⟩
 ·cases h
 simp only at h;split at h
 ·rcases r with _|⟨d,b⟩
  ·cases h
  simp only at h;split at h
  ·simp at h;omega
  split at h
  ·simp at h;omega
  split at h
  ·rcases b with _|⟨x,_|⟨y,e⟩⟩
   ·cases h
   ·cases h
   simp only at h;split at h
   ·rename_i a;rw[ZS]at a;have h1:=number_lt _ a.1;have h2:=number_lt _ a.2;simp only[Zp,Prod.mk.injEq]at h;omega
   cases h
  have:=QO d;simp only[Zp,Prod.mk.injEq]at h;omega
 have:=QO c;simp only[Zp,Prod.mk.injEq]at h;omega
def valueFrom (p:List UInt8):Nat->Nat->Option Int
 |0,_=>none
 |f+1,i=>
  match p.drop i with
  |[]=>some (-1)
  |c::r=>
   if c=92 then
    match one (c::r)with
    |none=>none
    |some (_,n)=>valueFrom p f (i+n)
   else if c=91 then
    match set r i with
    |none=>none
    |some (j,fa,_)=>if 0<=fa then some fa else valueFrom p f j
   else if c=123 then
    match r with
    |x::y::r'=>
     if y=44 then
      match r' with
      |z::_=>if z.toNat<x.toNat then some i else valueFrom p f (i+1)
      |[]=>none
     else valueFrom p f (i+1)
    |_=>none
   else valueFrom p f (i+1)
def cntTo (f:Nat->Bool):Nat->Nat
 |0=>0
 |k+1=>cntTo f k+if f k then 1 else 0
theorem cntTo_le (f:N_):∀k,cntTo f k<=k
 |0=>Zg _
 |k+1=>by have:=cntTo_le f k;unfold cntTo;split<;>omega
def emptyFrom (p:List UInt8):Nat->Nat->Option Int
 |0,_=>none
 |f+1,i=>
  match p.drop i with
  |[]=>some (-1)
  |c::r=>
   if c=92 then
    match one (c::r)with
    |none=>none
    |some (_,n)=>emptyFrom p f (i+n)
   else if c=91 then
    match set r i with
    |none=>none
    |some (j,_,inn)=>if cntTo inn 256=0 then some i else emptyFrom p f j
   else emptyFrom p f (i+1)
theorem items_ge {l:List UInt8}{f:Nat} (h:items f l i fa inn=some (j,fb,inb)):i<=j:=by
 induction f generalizing l i fa inn with
 |zero=>simp[items]at h
 |succ f ih=>
  unfold items at h;rcases l with _|⟨c,r⟩
  ·cases h
  simp only at h;split at h
  ·simp only[Zp,Prod.mk.injEq]at h;omega
  rcases ho:one (c::r)with _|⟨a,n⟩
  ·rw[ho]at h;cases h
  rw[ho]at h;simp only at h;rcases hd:(c::r).drop n with _|⟨d,e⟩
  ·rw[hd]at h;cases h
  rw[hd]at h;simp only at h;split at h
  ·rcases ho2:one e with _|⟨b,n'⟩
   ·rw[ho2]at h;cases h
   rw[ho2]at h;have:=ih h;omega
  have:=ih h;omega
theorem set_ge {l:List UInt8} (h:set l i=some (j,fb,inb)):i+2<=j:=by
 unfold set at h;rcases l with _|⟨c,r⟩
 ·cases h
 simp only at h;split at h
 ·rcases hx:items (r.length+1) r (i+2) (-1) (λ_=>false)with _|⟨a,b,d⟩
  ·rw[hx]at h;cases h
  rw[hx]at h;have:=items_ge hx;simp only[Option.map_some,Zp,Prod.mk.injEq]at h;omega
 rcases hx:items (r.length+2) (c::r) (i+1) (-1) (λ_=>false)with _|⟨a,b,d⟩
 ·rw[hx]at h;cases h
 rw[hx]at h;have:=items_ge hx;simp only[Option.map_some,Zp,Prod.mk.injEq]at h;omega
end Rf
def Ye (vs:Nat->Int):Nat->Int
 |0=>0
 |n+1=>Ye vs n+vs n
namespace Rf
def groupFrom (p:List UInt8):Nat->Nat->Int->Option Nat
 |0,_,_=>none
 |f+1,i,o=>
  match p.drop i with
  |[]=>some 1
  |c::r=>
   if c=92 then
    match one (c::r)with
    |none=>none
    |some (_,n)=>groupFrom p f (i+n) o
   else if c=91 then
    match set r i with
    |none=>none
    |some (j,_,_)=>groupFrom p f j o
   else if c=40 then groupFrom p f (i+1) (o+1)
   else if c=41 then (if o-1=0 then some (i+1) else groupFrom p f (i+1) (o-1))
   else groupFrom p f (i+1) o
def atom (l:List UInt8):Option Nat:=
 match l with
 |[]=>none
 |c::r=>
  if c=92 then (one (c::r)).map (·.2)
  else if c=91 then (set r 0).map (·.1)
  else if c=40 then groupFrom (c::r) (r.length+2) 0 0
  else some 1
def closeFrom (p:List UInt8):Nat->Nat->Option Nat
 |0,_=>none
 |f+1,i=>
  match p.drop i with
  |[]=>none
  |c::_=>if c=125 then some (i+1) else closeFrom p f (i+1)
def suffixed (p:List UInt8) (i:Nat):Option Nat:=
 match p.drop i with
 |[]=>none
 |c::_=>if c=123 then closeFrom p (p.length+1) i else some (i+1)
def suffixes:List UInt8:=[42,43,63,123]
def pieceFrom (p:List UInt8):Nat->Nat->Option Nat
 |0,_=>none
 |f+1,n=>
  match p.drop n with
  |[]=>some n
  |c::_=>
   if has suffixes c.toNat then
    match suffixed p n with
    |none=>none
    |some n'=>pieceFrom p f n'
   else some n
def piece (l:List UInt8):Option Nat:=
 match atom l with
 |none=>none
 |some n=>pieceFrom l (l.length+1) n
def splitFrom (p:List UInt8):Nat->Nat->Nat->Option Nat
 |0,_,_=>none
 |f+1,n,cut=>
  match p.drop n with
  |[]=>some cut
  |_::_=>
   match suffixed p n with
   |none=>none
   |some n'=>splitFrom p f n' n
def split (l:List UInt8):Option Nat:=
 match atom l with
 |none=>none
 |some n=>splitFrom l (l.length+1) n n
def most:List UInt8->Option Int
 |_::x::y::r=>
  if digit x.toNat then
   if y=44 then
    match r with
    |z::_=>if digit z.toNat then some ((z.toNat:Int)-48) else none
    |[]=>none
   else some ((x.toNat:Int)-48)
  else none
 |_=>none
def cnt:Nat->Bool->List UInt8->Option Int
 |0,_,_=>none
 |f+1,true,l=>
  match l with
  |[]=>some 0
  |c::r=>
   if c=124 then cnt f true r
   else match piece (c::r)with
    |none=>none
    |some k=>
     match cnt f false ((c::r).take k),cnt f true ((c::r).drop k)with
     |some a,some b=>some (a+b)
     |_,_=>none
 |f+1,false,l=>
  match split l with
  |none=>none
  |some cut=>
   match l.drop cut with
   |u::us=>
    match cnt f false (l.take cut)with
    |none=>none
    |some n=>if u=123 then (most (u::us)).map (n*·) else some n
   |[]=>
    match l with
    |[]=>none
    |c::r=>if c=40 then (if r.length=0 then none else cnt f true (r.take (r.length-1))) else some 1
theorem closeFrom_gt {p:List UInt8}{f:Nat} (h:closeFrom p f i=some n):i<n/\n<=p.length:=by
 induction f generalizing i with
 |zero=>simp[closeFrom]at h
 |succ f ih=>
  unfold closeFrom at h;rcases hd:p.drop i with _|⟨c,r⟩
  ·rw[hd]at h;cases h
  rw[hd]at h;have b:i<p.length:=by
   rcases ZD i p.length with a|a
   ·exact a
   rw[List.drop_eq_nil_of_le a]at hd;cases hd
  simp only at h;split at h
  ·simp at h;omega
  have:=ih h;omega
theorem suffixed_gt {p:List UInt8} (h:suffixed p i=some n):i<n:=by
 unfold suffixed at h;rcases hd:p.drop i with _|⟨c,r⟩
 ·rw[hd]at h;cases h
 rw[hd]at h;simp only at h;split at h
 ·exact(closeFrom_gt h).1
 simp at h;omega
theorem suffixed_le {p:List UInt8} (h:suffixed p i=some n):n<=p.length:=by
 unfold suffixed at h;rcases hd:p.drop i with _|⟨c,r⟩
 ·rw[hd]at h;cases h
 rw[hd]at h;have b:i<p.length:=by
  rcases ZD i p.length with a|a
  ·exact a
  rw[List.drop_eq_nil_of_le a]at hd;cases hd
 simp only at h;split at h
 ·exact(closeFrom_gt h).2
 simp at h;omega
theorem splitFrom_le {p:List UInt8}{f r:Nat} (h:splitFrom p f n c=some r):c<=p.length->r<=p.length:=by
 induction f generalizing n c with
 |zero=>simp[splitFrom]at h
 |succ f ih=>
  intro b;unfold splitFrom at h;rcases hd:p.drop n with _|⟨x,y⟩
  ·rw[hd]at h;simp at h;omega
  rw[hd]at h;have d:n<p.length:=by
   rcases ZD n p.length with a|a
   ·exact a
   rw[List.drop_eq_nil_of_le a]at hd;cases hd
  simp only at h;rcases hs:suffixed p n with _|n'
  ·rw[hs]at h;cases h
  rw[hs]at h;exact ih h (by omega)
theorem one_le {l:List UInt8}{v:Int} (h:one l=some (v,n)):n<=l.length:=by
 unfold one at h;rcases l with _|⟨c,r⟩
 ·cases h
 simp only at h;split at h
 ·rcases r with _|⟨d,a⟩
  ·cases h
  simp only at h;split at h
  ·simp at h;simp;omega
  split at h
  ·simp at h;simp;omega
  split at h
  ·rcases a with _|⟨x,_|⟨y,b⟩⟩
   ·cases h
   ·cases h
   simp only at h;split at h
   ·simp only[Zp,Prod.mk.injEq]at h;simp;omega
   cases h
  simp only[Zp,Prod.mk.injEq]at h;simp;omega
 simp only[Zp,Prod.mk.injEq]at h;simp;omega
theorem items_lt {l:List UInt8}{f:Nat} (h:items f l i fa inn=some (j,fb,inb)):j<i+l.length:=by
 induction f generalizing l i fa inn with
 |zero=>simp[items]at h
 |succ f ih=>
  unfold items at h;rcases l with _|⟨c,r⟩
  ·cases h
  simp only at h;split at h
  ·simp only[Zp,Prod.mk.injEq]at h;simp;omega
  rcases ho:one (c::r)with _|⟨a,n⟩
  ·rw[ho]at h;cases h
  rw[ho]at h;simp only at h;have m:=one_le ho;rcases hd:(c::r).drop n with _|⟨d,e⟩
  ·rw[hd]at h;cases h
  have k:(d::e).length=(c::r).length-n:=by rw[<-hd];simp
  rw[hd]at h;simp only at h;split at h
  ·rcases ho2:one e with _|⟨b,n'⟩
   ·rw[ho2]at h;cases h
   rw[ho2]at h;have g:=one_le ho2;have:=ih h;simp only[List.length_drop,List.length_cons]at *;omega
  have:=ih h;simp only[List.length_cons]at *;omega
theorem set_le {l:List UInt8} (h:set l i=some (j,fb,inb)):j<=i+1+l.length:=by
 unfold set at h;rcases l with _|⟨c,r⟩
 ·cases h
 simp only at h;split at h
 ·rcases hx:items (r.length+1) r (i+2) (-1) (λ_=>false)with _|⟨a,b,d⟩
  ·rw[hx]at h;cases h
  rw[hx]at h;have:=items_lt hx;simp only[Option.map_some,Zp,Prod.mk.injEq]at h;simp;omega
 rcases hx:items (r.length+2) (c::r) (i+1) (-1) (λ_=>false)with _|⟨a,b,d⟩
 ·rw[hx]at h;cases h
 rw[hx]at h;have:=items_lt hx;simp only[Option.map_some,Zp,Prod.mk.injEq]at h;simp at *;omega
theorem groupFrom_le {p:List UInt8}{f:Nat}{o:Int} (h:groupFrom p f i o=some n):1<=n/\(1<=p.length->n<=p.length):=by
 induction f generalizing i o with
 |zero=>simp[groupFrom]at h
 |succ f ih=>
  unfold groupFrom at h;rcases hd:p.drop i with _|⟨c,r⟩
  ·rw[hd]at h;simp at h;omega
  rw[hd]at h;have e:i<p.length:=by
   rcases ZD i p.length with d|d
   ·exact d
   rw[List.drop_eq_nil_of_le d]at hd;cases hd
  simp only at h;split at h
  ·rcases ho:one (c::r)with _|⟨a,n'⟩
   ·rw[ho]at h;cases h
   rw[ho]at h;exact ih h
  split at h
  ·rcases ho:set r i with _|⟨j,a,b⟩
   ·rw[ho]at h;cases h
   rw[ho]at h;exact ih h
  split at h
  ·exact ih h
  split at h
  ·split at h
   ·simp at h;omega
   exact ih h
  exact ih h
theorem atom_le {l:List UInt8} (h:atom l=some n):1<=n/\n<=l.length:=by
 unfold atom at h;rcases l with _|⟨c,r⟩
 ·cases h
 simp only at h;split at h
 ·rcases ho:one (c::r)with _|⟨a,n'⟩
  ·rw[ho]at h;cases h
  have h1:=one_bd ho;have h2:=one_le ho;rw[ho]at h;simp at h;omega
 split at h
 ·rcases ho:set r 0 with _|⟨j,a,b⟩
  ·rw[ho]at h;cases h
  have h1:=set_ge ho;have h2:=set_le ho;rw[ho]at h;simp at h;simp at *;omega
 split at h
 ·have:=groupFrom_le h;simp at *;omega
 simp at h;simp;omega
theorem pieceFrom_le {p:List UInt8}{f r:Nat} (h:pieceFrom p f n=some r):n<=p.length->n<=r/\r<=p.length:=by
 induction f generalizing n with
 |zero=>simp[pieceFrom]at h
 |succ f ih=>
  intro a;unfold pieceFrom at h;rcases hd:p.drop n with _|⟨x,y⟩
  ·rw[hd]at h;simp at h;omega
  rw[hd]at h;simp only at h;split at h
  ·rcases hs:suffixed p n with _|n'
   ·rw[hs]at h;cases h
   rw[hs]at h;have h1:=suffixed_gt hs;have h2:=suffixed_le hs;have:=ih h h2;omega
  simp at h;omega
theorem piece_le {l:List UInt8} (h:piece l=some n):1<=n/\n<=l.length:=by
 unfold piece at h;rcases ha:atom l with _|n0
 ·rw[ha]at h;cases h
 rw[ha]at h;have h1:=atom_le ha;have:=pieceFrom_le h h1.2;omega
theorem split_le {l:List UInt8} (h:split l=some n):n<=l.length:=by
 unfold split at h;rcases ha:atom l with _|n0
 ·rw[ha]at h;cases h
 rw[ha]at h;exact splitFrom_le h (atom_le ha).2
theorem most_bd {l:List UInt8}{m:Int} (h:most l=some m):0<=m/\m<=9/\3<=l.length:=by
 unfold most at h;split at h
 ·rename_i x y z r;split at h
  ·rename_i c;have d:48<=(y.toNat:Int)/\(y.toNat:Int)<=57:=by simpa[digit]using c
   split at h
   ·split at h
    ·rename_i a b;split at h
     ·rename_i hz;have e:48<=(a.toNat:Int)/\(a.toNat:Int)<=57:=by simpa[digit]using hz
      simp at h;simp;omega
     cases h
    cases h
   simp at h;simp;omega
  cases h
 cases h
theorem pow_add_le (a b:Nat) (ha:1<=a) (y:1<=b):5 ^ a*2 ^ b+5 ^ b*2 ^ a<=5 ^ (a+b):=by
 obtain⟨a,rfl⟩:∃a',a=a'+1:=⟨a-1,by omega⟩;obtain⟨b,rfl⟩:∃b',b=b'+1:=⟨b-1,by omega⟩;have h1:(2:Nat) ^ b<=5 ^ b:=Nat.pow_le_pow_left (by omega) b;have h2:(2:Nat) ^ a<=5 ^ a:=Nat.pow_le_pow_left (by omega) a;have h3:(5:Nat) ^ a*2 ^ b<=5 ^ a*5 ^ b:=Nat.mul_le_mul_left _ h1;have e:(5:Nat) ^ b*2 ^ a<=5 ^ b*5 ^ a:=Nat.mul_le_mul_left _ h2;have f:(5:Nat) ^ b*5 ^ a=5 ^ a*5 ^ b:=Nat.mul_comm _ _;have c:(5:Nat) ^ (a+1)*2 ^ (b+1)=10*(5 ^ a*2 ^ b):=by rw[Nat.pow_succ,Nat.pow_succ,Nat.mul_mul_mul_comm];omega
 have e2:(5:Nat) ^ (b+1)*2 ^ (a+1)=10*(5 ^ b*2 ^ a):=by rw[Nat.pow_succ,Nat.pow_succ,Nat.mul_mul_mul_comm];omega
 have d:(5:Nat) ^ (a+1+(b+1))=25*(5 ^ a*5 ^ b):=by
  rw[show a+1+(b+1)=(a+b)+2 by omega,Nat.pow_add,Nat.pow_add];omega
 omega
theorem cnt_bd {f:Nat}:∀ {t:Bool}{l:List UInt8}{v:Int},cnt f t l=some v->0<=v/\v.toNat*2 ^ l.length<=5 ^ l.length/\(l=[]->v=0):=by
 induction f with
 |zero=>intro t l v h;simp[cnt]at h
 |succ f ih=>
  intro t l v h;cases t
  ·-- a piece
   unfold cnt at h;rcases hs:split l with _|g
   ·rw[hs]at h;cases h
   have F:=split_le hs;rw[hs]at h;simp only at h;rcases i:l.drop g with _|⟨u,B⟩
   ·rw[i]at h;rcases l with _|⟨c,r⟩
    ·simp at h
    simp only at h;split at h
    ·split at h
     ·cases h
     obtain⟨h1,h2,_⟩:=ih h;refine⟨h1,?_,by simp⟩;have E:(r.take (r.length-1)).length=r.length-1:=by simp
     rw[E]at h2;have H:(2:Nat) ^ (c::r).length<=4*2 ^ (r.length-1):=by
      rw[show 4=2 ^ 2 from rfl,<-Nat.pow_add];exact Nat.pow_le_pow_right (by omega) (by simp;omega)
     have N:(5:Nat)*5 ^ (r.length-1)<=5 ^ (c::r).length:=by
      rw[Nat.mul_comm,<-Nat.pow_succ];exact Nat.pow_le_pow_right (by omega) (by simp)
     calc v.toNat*2 ^ (c::r).length<=v.toNat*(4*2 ^ (r.length-1)):=Nat.mul_le_mul_left _ H
      _=4*(v.toNat*2 ^ (r.length-1)):=by rw[Nat.mul_left_comm]
      _<=5 ^ (c::r).length:=by omega
    simp only[Zp]at h;subst h;refine⟨by omega,?_,by simp⟩;have:(2:Nat) ^ (c::r).length<=5 ^ (c::r).length:=Nat.pow_le_pow_left (by omega) _;simpa using this
   rw[i]at h;simp only at h;rcases hx:cnt f false (l.take g)with _|n
   ·rw[hx]at h;cases h
   obtain⟨h1,h2,_⟩:=ih hx;rw[hx]at h;simp only at h;have o:(l.take g).length=g:=by simp;omega
   have D:(u::B).length=l.length-g:=by rw[<-i];simp
   have p:l≠[]:=by intro e;rw[e]at i;simp at i
   rw[o]at h2;split at h
   ·rcases hm:most (u::B)with _|m
    ·rw[hm]at h;cases h
    obtain⟨A,M,m2⟩:=most_bd hm;rw[hm]at h;simp only[Option.map_some,Zp]at h;subst h;refine⟨Int.mul_nonneg h1 A,?_,λe=>absurd e p⟩;obtain⟨d,j⟩:∃d,l.length=g+(d+3):=⟨l.length-g-3,by omega⟩;have w:=Int.toNat_mul h1 A;rw[w,j,Nat.pow_add 2 g,Nat.pow_add 5 g];have I:m.toNat*2 ^ (d+3)<=5 ^ (d+3):=by
     have y:m.toNat<=9:=by omega
     have:(2:Nat) ^ d<=5 ^ d:=Nat.pow_le_pow_left (by omega) d
     calc m.toNat*2 ^ (d+3)<=9*2 ^ (d+3):=ZQ _ y
      _<=5 ^ (d+3):=by rw[Nat.pow_add,Nat.pow_add];omega
    calc n.toNat*m.toNat*(2 ^ g*2 ^ (d+3))=(n.toNat*2 ^ g)*(m.toNat*2 ^ (d+3)):=by rw[Nat.mul_mul_mul_comm]
     _<=5 ^ g*5 ^ (d+3):=Nat.mul_le_mul h2 I
   simp only[Zp]at h;subst h;refine⟨h1,?_,λe=>absurd e p⟩;obtain⟨d,j⟩:∃d,l.length=g+d:=⟨l.length-g,by omega⟩;rw[j,Nat.pow_add,Nat.pow_add,<-Nat.mul_assoc];exact Nat.mul_le_mul h2 (Nat.pow_le_pow_left (by omega) d)
  -- a pattern
  unfold cnt at h;rcases l with _|⟨c,r⟩
  ·simp only[Zp]at h;subst h;exact⟨by omega,by simp,λ_=>rfl⟩
  simp only at h;split at h
  ·obtain⟨h1,h2,_⟩:=ih h;refine⟨h1,?_,by simp⟩;rw[List.length_cons,Nat.pow_succ,Nat.pow_succ,<-Nat.mul_assoc];omega
  rcases hp:piece (c::r)with _|k
  ·rw[hp]at h;cases h
  obtain⟨k1,L⟩:=piece_le hp;rw[hp]at h;simp only at h;rcases ha:cnt f false ((c::r).take k)with _|a
  ·rw[ha]at h;simp at h
  rcases hb:cnt f true ((c::r).drop k)with _|b
  ·rw[ha,hb]at h;simp at h
  rw[ha,hb]at h;simp only[Zp]at h;subst h;obtain⟨J,s,_⟩:=ih ha;obtain⟨K,z,C⟩:=ih hb;refine⟨by omega,?_,by simp⟩;have G:((c::r).take k).length=k:=by simp at *;omega
  rw[G]at s;obtain⟨d,i⟩:∃d,(c::r).length=k+d:=⟨(c::r).length-k,by omega⟩;have lb:((c::r).drop k).length=d:=by simp only[List.length_drop];omega
  rw[lb]at z;rw[i];have w:(a+b).toNat=a.toNat+b.toNat:=by omega
  rw[w,Nat.add_mul,Nat.pow_add 2 k d];rcases Nat.eq_zero_or_pos d with hz|q
  ·have x:b=0:=C (List.eq_nil_of_length_eq_zero (by omega));subst hz;subst x;simpa using s
  have:=pow_add_le k d k1 q;have O:a.toNat*(2 ^ k*2 ^ d)<=5 ^ k*2 ^ d:=by rw[<-Nat.mul_assoc];exact ZQ _ s
  have P:b.toNat*(2 ^ k*2 ^ d)<=5 ^ d*2 ^ k:=by rw[Nat.mul_comm (2 ^ k),<-Nat.mul_assoc];exact ZQ _ z
  omega
theorem cnt_small {f:Nat}{t:Bool}{l:List UInt8}{v:Int} (h:cnt f t l=some v) (y:l.length<=40):0<=v/\v<=9094947017729282:=by
 obtain⟨h1,h2,_⟩:=cnt_bd h;refine⟨h1,?_⟩;obtain⟨d,a⟩:∃d,40=l.length+d:=⟨40-l.length,by omega⟩;have h3:v.toNat*2 ^ 40<=5 ^ 40:=by
  rw[a,Nat.pow_add,Nat.pow_add,<-Nat.mul_assoc];exact Nat.mul_le_mul h2 (Nat.pow_le_pow_left (by omega) d)
 omega
def WrongIs (l:List UInt8) (e a:Int):Prop:=
 (40<l.length/\e=2/\a=0)\/(l.length<=40 /\
  ((0<=form l/\e=3/\a=form l)\/(form l<0 /\
   ((0<=deep l/\e=4/\a=deep l)\/(deep l<0/\∃f v,valueFrom l f 0=some v /\
    ((0<=v/\e=5/\a=v)\/(v<0/\∃g u,emptyFrom l g 0=some u/\((0<=u/\e=6/\a=u)\/(u<0/\e=0/\a=0)))))))))
end Rf
end
section
namespace Bm
def leastTo (E:Nat->Nat->Bool) (a:Nat):Nat->Nat
 |0=>a
 |k+1=>if leastTo E a k<k then leastTo E a k else if E k a then k else a
def least (E:Nat->Nat->Bool) (a:Nat):Nat:=leastTo E a a
theorem leastTo_spec (E:Nat->N_) (a:Nat):∀k,k<=a->(leastTo E a k<k/\E (leastTo E a k) a=true/\∀b,b<leastTo E a k->E b a=false)\/(leastTo E a k=a/\∀b,b<k->E b a=false)
 |0,_=>Or.inr ⟨rfl,λb c=>by omega⟩
 |k+1,hk=>by
  rw[leastTo];rcases leastTo_spec E a k (by omega)with ⟨h1,h2,h3⟩|⟨h1,h2⟩
  ·rw[if_pos h1];exact Or.inl ⟨by omega,h2,h3⟩
  rw[g_];cases h:E k a
  ·simp only[Bool.false_eq_true,if_false];refine Or.inr ⟨trivial,λb c=>?_⟩;by_cases e:b=k
   ·subst e;exact h
   exact h2 b (by omega)
  simp only[if_true];exact Or.inl ⟨by omega,h,h2⟩
structure Eqv (E:Nat->Nat->Bool) (n:Nat):Prop where
 refl:∀a,a<n->E a a=true
 symm:∀a b,a<n->b<n->E a b=true->E b a=true
 trans:∀a b c,a<n->b<n->c<n->E a b=true->E b c=true->E a c=true
theorem least_le (E:Nat->N_) (a:Nat):least E a<=a:=by
 rcases leastTo_spec E a a (Zg _)with ⟨h1,_⟩|⟨h1,_⟩<;>(unfold least;omega)
variable {b:Nat}{E:Nat->N_}
theorem least_min {a:Nat} (h:b<least E a):E b a=false:=by
 rcases leastTo_spec E a a (Zg _)with ⟨_,_,h3⟩|⟨h1,h2⟩
 ·exact h3 b h
 exact h2 b (by unfold least at h;omega)
variable {n:Nat}
theorem least_like {a:Nat} (y:Eqv E n) (ha:a<n):E (least E a) a=true:=by
 rcases leastTo_spec E a a (Zg _)with ⟨_,h2,_⟩|⟨h1,_⟩
 ·exact h2
 unfold least;rw[h1];exact y.refl a ha
theorem least_eq {a r:Nat} (h:E r a=true) (z:∀b,b<r->E b a=false) (y:E (least E a) a=true):least E a=r:=by
 have h1:¬least E a<r:=λh2=>by rw[z _ h2]at y;cases y
 have h2:¬r<least E a:=λh3=>by rw[least_min h3]at h;cases h
 omega
theorem least_of_like {a:Nat} (y:Eqv E n) (ha:a<n) (z:b<n) (h:E a b=true):least E a=least E b:=by
 have c:=least_like y ha;have lb:=least_like y z;have d:=least_le E a;have e:=least_le E b;have h1:¬least E a<least E b:=λh2=>by
  have:=y.trans (least E a) a b (by omega) ha z c h;rw[least_min h2]at this;cases this
 have h2:¬least E b<least E a:=λh3=>by
  have:=y.trans (least E b) b a (by omega) z ha lb (y.symm a b ha z h);rw[least_min h3]at this;cases this
 omega
theorem like_of_least {a:Nat} (y:Eqv E n) (ha:a<n) (z:b<n) (h:least E a=least E b):E a b=true:=by
 have c:=least_like y ha;have lb:=least_like y z;have d:=least_le E a;rw[<-h]at lb;exact y.trans a (least E a) b ha (by omega) z (y.symm _ _ (by omega) ha c) lb
theorem least_idem {a:Nat} (y:Eqv E n) (ha:a<n):least E (least E a)=least E a:=by
 have b:=least_le E a;exact least_of_like y (by omega) ha (least_like y ha)
def reps (E:Nat->Nat->Bool) (n:Nat):List Nat:=(List.range n).filter λa=>least E a==a
def cnt (E:Nat->Nat->Bool) (n:Nat):Nat:=(reps E n).length
def idx (E:Nat->Nat->Bool) (a:Nat):Nat:=cnt E (least E a)
theorem reps_succ (E:Nat->N_) (n:Nat):reps E (n+1)=reps E n++if least E n=n then [n] else []:=by
 unfold reps;rw[ZT,List.filter_append];congr 1;by_cases h:least E n=n
 ·rw[if_pos h];simp[h]
 rw[if_neg h];simp[h]
theorem cnt_succ (E:Nat->N_) (n:Nat):cnt E (n+1)=cnt E n+if least E n=n then 1 else 0:=by
 unfold cnt;rw[reps_succ,Zl];split<;>rfl
theorem cnt_mono (E:Nat->N_) {a b:Nat} (h:a<=b):cnt E a<=cnt E b:=by
 induction b with
 |zero=>
   have:a=0:=by omega
   subst this;exact Zg _
 |succ b ih=>
  by_cases e:a=b+1
  ·subst e;exact Zg _
  have:=ih (by omega);rw[cnt_succ];omega
theorem cnt_le (E:Nat->N_) (n:Nat):cnt E n<=n:=by
 unfold cnt reps;have:=List.length_filter_le (λa=>least E a==a) (List.range n);simpa using this
theorem reps_get (E:Nat->N_):∀(n a:Nat),a<n->least E a=a->(reps E n)[cnt E a]?=some a
 |0,a,h,_=>by omega
 |n+1,a,h,hr=>by
  rw[reps_succ];by_cases e:a=n
  ·subst e;rw[if_pos hr,ZG (by unfold cnt;omega)];simp[cnt]
  have h1:=reps_get E n a (by omega) hr;rw[Zv (Zi.1 h1).1];exact h1
variable {k:Nat}
theorem reps_mem {a:Nat} (h:(reps E n)[k]?=some a):a<n/\least E a=a/\cnt E a=k:=by
 induction n with
 |zero=>simp[reps]at h
 |succ n ih=>
  rw[reps_succ]at h;by_cases d:k<(reps E n).length
  ·rw[Zv d]at h;obtain⟨h1,h2,h3⟩:=ih h;exact⟨by omega,h2,h3⟩
  rw[ZG (by omega)]at h;by_cases c:least E n=n
  ·rw[if_pos c]at h;have b:k-(reps E n).length=0:=by
    have:=(Zi.1 h).1;simp at this;omega
   rw[b]at h;simp at h;subst h;exact⟨by omega,c,by unfold cnt;omega⟩
  rw[if_neg c]at h;simp at h
theorem cnt_lt {a:Nat} (y:least E a=a) (h:a<b):cnt E a<cnt E b:=by
 have h1:=cnt_succ E a;rw[if_pos y]at h1;have h2:=cnt_mono E (show a+1<=b by omega);omega
theorem cnt_inj {a:Nat} (ha:least E a=a) (y:least E b=b) (h:cnt E a=cnt E b):a=b:=by
 rcases Nat.lt_trichotomy a b with h1|h1|h1
 ·have:=cnt_lt ha h1;omega
 ·exact h1
 have:=cnt_lt y h1;omega
theorem idx_lt {a:Nat} (y:Eqv E n) (ha:a<n):idx E a<cnt E n:=by
 have:=least_le E a;exact cnt_lt (least_idem y ha) (by omega)
theorem idx_eq {a:Nat} (y:Eqv E n) (ha:a<n) (z:b<n):idx E a=idx E b<->E a b=true:=by
 constructor
 ·intro h;exact like_of_least y ha z (cnt_inj (least_idem y ha) (least_idem y z) h)
 intro h;unfold idx;rw[least_of_like y ha z h]
theorem idx_rep {a:Nat} (h:least E a=a):idx E a=cnt E a:=by unfold idx;rw[h]
theorem rep_like {a r:Nat} (y:Eqv E n) (ha:a<n) (h:(reps E a)[k]?=some r):E r a=true<->k=idx E a:=by
 obtain⟨h1,h2,h3⟩:=reps_mem h;rw[<-idx_eq y (by omega) ha,idx_rep h2,h3]
theorem rep_new {a:Nat} (y:Eqv E n) (ha:a<n):(idx E a=cnt E a<->least E a=a)/\idx E a<=cnt E a:=by
 have b:=least_le E a;refine⟨⟨λh=>?_,λh=>idx_rep h⟩,cnt_mono E b⟩;rcases ZD (least E a) a with h1|h1
 ·have:=cnt_lt (least_idem y ha) h1;unfold idx at h;omega
 omega
end Bm
namespace Bm
structure Aut where
 N:Nat
 K:Nat
 to:Nat->Nat->Int
 vd:Nat->Int
def ext (A:Aut):Int->List Nat->Int
 |s,[]=>if s<0 then -1 else A.vd s.toNat
 |s,k::w=>if s<0 then -1 else ext A (A.to s.toNat k) w
theorem ext_none (A:Aut) (w:List Nat) {s:Int} (h:s<0):ext A s w=-1:=by
 cases w<;>simp[ext,h]
theorem ext_nil (A:Aut) (a:Nat):ext A (a:Int) []=A.vd a:=by
 simp only[ext];rw[g_,ZE]
theorem ext_cons (A:Aut) (a k:Nat) (w:List Nat):ext A (a:Int) (k::w)=ext A (A.to a k) w:=by
 simp only[ext];rw[g_,ZE]
def Kd (A:Aut) (w:List Nat):Prop:=∀k∈w,k<A.K
theorem Kd.nil (A:Aut):Kd A []:=λk a=>by cases a
variable {A:Aut}{k:Nat}
theorem Kd.cons {w:List Nat} (y:k<A.K) (z:Kd A w):Kd A (k::w):=λj a=>by
 rcases ZR.1 a with rfl|h
 ·exact y
 exact z j h
theorem Kd.tail {w:List Nat} (h:Kd A (k::w)):k<A.K/\Kd A w:=⟨h k (by simp),λj a=>h j (by simp[a])⟩
def Al (A:Aut) (a b:Int):Prop:=∀w,Kd A w->ext A a w=ext A b w
theorem Al.refl (A:Aut) (a:Int):Al A a a:=λ_ _=>rfl
theorem Al.symm {a b:Int} (h:Al A a b):Al A b a:=λw c=>(h w c).symm
theorem Al.trans {a b c:Int} (h:Al A a b) (k:Al A b c):Al A a c:=λw d=>(h w d).trans (k w d)
variable {b:Nat}
theorem Al.vd {a:Nat} (h:Al A a b):A.vd a=A.vd b:=by
 have:=h [] (Kd.nil A);rw[ext_nil,ext_nil]at this;exact this
theorem Al.to {a:Nat} (h:Al A a b) (y:k<A.K):Al A (A.to a k) (A.to b k):=λw c=>by
 have:=h (k::w) (c.cons y);rw[ext_cons,ext_cons]at this;exact this
structure Aut.Good (A:Aut):Prop where
 rng:∀s k,s<A.N->k<A.K->-1<=A.to s k/\A.to s k<A.N
 live:∀s:Nat,s<A.N->¬Al A s (-1)
def gAt (A:Aut) (of:Nat->Int) (a k:Nat):Int:=if A.to a k=-1 then -1 else of (A.to a k).toNat
def Tg (A:Aut) (of:Nat->Int) (a b:Nat):Bool:=of a==of b&&(List.range A.K).all λk=>gAt A of a k==gAt A of b k
theorem Tg_iff (A:Aut) (of:Nat->Int) (a b:Nat):Tg A of a b=true<->of a=of b/\∀k,k<A.K->gAt A of a k=gAt A of b k:=by
 simp[Tg]
theorem Tg_eqv (A:Aut) (of:Nat->Int) (n:Nat):Eqv (Tg A of) n:=
 ⟨λa _=>(Tg_iff A of a a).2 ⟨rfl,λ_ _=>rfl⟩,
  λa b _ _ h=>by
  obtain⟨h1,h2⟩:=(Tg_iff A of a b).1 h;exact(Tg_iff A of b a).2 ⟨h1.symm,λk d=>(h2 k d).symm⟩,
  λa b c _ _ _ h e=>by
  obtain⟨h1,h2⟩:=(Tg_iff A of a b).1 h;obtain⟨k1,f⟩:=(Tg_iff A of b c).1 e;exact(Tg_iff A of a c).2 ⟨h1.trans k1,λk d=>(h2 k d).trans (f k d)⟩⟩
theorem Tg_al (z:A.Good) {of:Nat->Int} (h:∀a b:Nat,a<A.N->b<A.N->Al A a b->of a=of b) {a b:Nat} (ha:a<A.N) (H:b<A.N) (y:Al A a b):Tg A of a b=true:=by
 refine(Tg_iff A of a b).2 ⟨h a b ha H y,λk e=>?_⟩;have c:=y.to e;have g:=z.rng a k ha e;have i:=z.rng b k H e;unfold gAt;by_cases h1:A.to a k=-1
 ·by_cases h2:A.to b k=-1
  ·rw[if_pos h1,if_pos h2]
  exfalso;obtain⟨m,d⟩:=ZA (show 0<=A.to b k by omega);rw[h1,d]at c;exact z.live m (by omega) c.symm
 by_cases h2:A.to b k=-1
 ·exfalso;obtain⟨m,d⟩:=ZA (show 0<=A.to a k by omega);rw[h2,d]at c;exact z.live m (by omega) c
 rw[if_neg h1,if_neg h2];obtain⟨m,d⟩:=ZA (show 0<=A.to a k by omega);obtain⟨p,f⟩:=ZA (show 0<=A.to b k by omega);rw[d,f]at c ⊢;rw[ZE,ZE];exact h m p (by omega) (by omega) c
variable {n:Nat}{E:Nat->N_}
theorem finer_eq {F:Nat->N_} (z:Eqv E n) (y:Eqv F n) (h:∀a b,a<n->b<n->F a b=true->E a b=true) (H:cnt F n<=cnt E n):
  ∀a b,a<n->b<n->E a b=true->F a b=true:=by
 have o:∀a,a<n->least E a=a->least F a=a:=λa ha f=>by
  have h1:=least_le F a;rcases ZD (least F a) a with h2|h2
  ·have h3:=h _ _ (by omega) ha (least_like y ha);have p:=least_of_like z (by omega) ha h3;have r:=least_le E (least F a);rw[f]at p;omega
  omega
 have q:∀k,k<=n->cnt E k<=cnt F k:=by
  intro k
  induction k with
  |zero=>intro _;exact Zg _
  |succ k ih=>
   intro c;have:=ih (by omega);rw[cnt_succ,cnt_succ];by_cases e:least E k=k
   ·rw[if_pos e,if_pos (o k (by omega) e)];omega
   rw[if_neg e];omega
 have hs:∀k,k<=n->cnt F n-cnt F k>=cnt E n-cnt E k/\cnt F k<=cnt F n/\cnt E k<=cnt E n:=by
  intro k c;refine⟨?_,cnt_mono F c,cnt_mono E c⟩;obtain⟨d,rfl⟩:∃d,n=k+d:=⟨n-k,by omega⟩;have:∀j,j<=d->cnt E (k+j)-cnt E k<=cnt F (k+j)-cnt F k:=by
   intro j
   induction j with
   |zero=>intro _;simp
   |succ j ih=>
    intro s;have h1:=ih (by omega);have h2:=cnt_mono E (show k<=k+j by omega);have h3:=cnt_mono F (show k<=k+j by omega);rw[<-ZN,cnt_succ,cnt_succ];by_cases e:least E (k+j)=k+j
    ·rw[if_pos e,if_pos (o _ (by omega) e)];omega
    rw[if_neg e];omega
  exact this d (Zg _)
 have g:∀k,k<=n->cnt E k=cnt F k:=λk c=>by
  have h1:=q k c;have h2:=hs k c;omega
 have i:∀a,a<n->least F a=a->least E a=a:=λa ha f=>by
  have h1:=g a (by omega);have h2:=g (a+1) (by omega);rw[cnt_succ,cnt_succ,if_pos f]at h2;by_cases e:least E a=a
  ·exact e
  rw[if_neg e]at h2;omega
 have f:∀a,a<n->least E a=least F a:=λa ha=>by
  have h1:=least_le F a;have h2:=i (least F a) (by omega) (least_idem y ha);have h3:=least_of_like z (by omega) ha (h _ _ (by omega) ha (least_like y ha));rw[<-h3,h2]
 intro a b ha m l;exact like_of_least y ha m (by rw[<-f a ha,<-f b m];exact least_of_like z ha m l)
def idxI (E:Nat->Nat->Bool) (a:Nat):Int:=(idx E a:Int)
structure Part (A:Aut) (E:Nat->Nat->Bool):Prop where
 eqv:Eqv E A.N
 vd:∀a b,a<A.N->b<A.N->E a b=true->A.vd a=A.vd b
 al:∀a b:Nat,a<A.N->b<A.N->Al A a b->E a b=true
theorem Part.first (y:A.Good):Part A (Tg A λa=>A.vd a+1):=
 ⟨Tg_eqv _ _ _,λa b _ _ h=>by have:=((Tg_iff _ _ _ _).1 h).1;omega,λa b ha c h=>Tg_al y (λa b _ _ h=>by rw[h.vd]) ha c h⟩
theorem Part.next (y:A.Good) (h:Part A E):Part A (Tg A (idxI E))/\∀a b,a<A.N->b<A.N->Tg A (idxI E) a b=true->E a b=true:=by
 have f:∀a b,a<A.N->b<A.N->Tg A (idxI E) a b=true->E a b=true:=λa b ha c e=>by
  have h1:=((Tg_iff _ _ _ _).1 e).1;exact(idx_eq h.eqv ha c).1 (by unfold idxI at h1;omega)
 refine⟨⟨Tg_eqv _ _ _,λa b ha c e=>h.vd a b ha c (f a b ha c e),λa b ha c d=>Tg_al y (λa b ha c d=>?_) ha c d⟩,f⟩;unfold idxI;rw[(idx_eq h.eqv ha c).2 (h.al a b ha c d)]
theorem Part.stable (y:A.Good) (h:Part A E) (z:cnt (Tg A (idxI E)) A.N<=cnt E A.N):∀a b:Nat,a<A.N->b<A.N->(Tg A (idxI E) a b=true<->Al A a b):=by
 obtain⟨h2,g⟩:=h.next y;have i:=finer_eq h.eqv h2.eqv g z;have n:∀(w:List Nat) (a b:Nat),Kd A w->a<A.N->b<A.N->E a b=true->ext A a w=ext A b w:=by
  intro w
  induction w with
  |nil=>
   intro a b _ ha d e;simp only[ext,ZE];rw[g_,g_];exact h.vd a b ha d e
  |cons k w ih=>
   intro a b f ha d e;obtain⟨k1,o⟩:=f.tail;have c:=((Tg_iff _ _ _ _).1 (i a b ha d e)).2 k k1;have q:=y.rng a k ha k1;have r:=y.rng b k d k1;simp only[ext,ZE];rw[g_,g_];unfold gAt at c;by_cases h1:A.to a k=-1
   ·rw[if_pos h1]at c;by_cases h2:A.to b k=-1
    ·rw[h1,h2]
    rw[if_neg h2]at c;unfold idxI at c;omega
   rw[if_neg h1]at c;by_cases h2:A.to b k=-1
   ·rw[if_pos h2]at c;unfold idxI at c;omega
   rw[if_neg h2]at c;obtain⟨m,j⟩:=ZA (show 0<=A.to a k by omega);obtain⟨p,l⟩:=ZA (show 0<=A.to b k by omega);rw[j,l]at c ⊢;rw[ZE,ZE]at c;exact ih m p o (by omega) (by omega) ((idx_eq h.eqv (by omega) (by omega)).1 (by unfold idxI at c;omega))
 intro a b ha d;constructor
 ·intro c w f;exact n w a b f ha d (g a b ha d c)
 exact h2.al a b ha d
open Classical in
noncomputable def alB (A:Aut) (a b:Nat):Bool:=decide (Al A a b)
theorem alB_iff (A:Aut) (a b:Nat):alB A a b=true<->Al A a b:=by simp[alB]
theorem alB_eqv (A:Aut) (n:Nat):Eqv (alB A) n:=
 ⟨λa _=>(alB_iff A a a).2 (Al.refl A a),λa b _ _ h=>(alB_iff A b a).2 ((alB_iff A a b).1 h).symm,λa b c _ _ _ h k=>(alB_iff A a c).2 (((alB_iff A a b).1 h).trans ((alB_iff A b c).1 k))⟩
theorem least_congr {F:Nat->N_} (y:Eqv E n) (z:Eqv F n) (h:∀a b,a<n->b<n->(E a b=true<->F a b=true)) {a:Nat} (ha:a<n):least E a=least F a:=by
 have h1:=least_le E a;have h2:=least_le F a;have h3:=least_of_like z (by omega) ha ((h _ _ (by omega) ha).1 (least_like y ha));have c:=least_of_like y (by omega) ha ((h _ _ (by omega) ha).2 (least_like z ha));have d:=least_le F (least E a);have e:=least_le E (least F a);omega
theorem reps_congr {F:Nat->N_} (y:Eqv E n) (z:Eqv F n) (h:∀a b,a<n->b<n->(E a b=true<->F a b=true)):∀m,m<=n->reps E m=reps F m
 |0,_=>rfl
 |m+1,hm=>by rw[reps_succ,reps_succ,reps_congr y z h m (by omega),least_congr y z h (show m<n by omega)]
theorem idx_congr {F:Nat->N_} (y:Eqv E n) (z:Eqv F n) (h:∀a b,a<n->b<n->(E a b=true<->F a b=true)) {a:Nat} (ha:a<n):idx E a=idx F a:=by
 have:=least_le F a;unfold idx cnt;rw[least_congr y z h ha,reps_congr y z h _ (by omega)]
def st (A:Aut) (i:Nat):Int:=if i=A.N then -1 else i
variable {toN:Nat->Nat->Nat}
theorem pairs_al {t:Nat->N_} (y:∀i k,i<=A.N->k<A.K->toN i k<=A.N/\st A (toN i k)=if i=A.N then -1 else A.to i k)
  (z:∀i j,i<=A.N->j<=A.N->t i j=false->ext A (st A i) []=ext A (st A j) []) (H:∀i j k,i<=A.N->j<=A.N->k<A.K->t i j=false->t (toN i k) (toN j k)=false):
  ∀(w:List Nat) (i j:Nat),Kd A w->i<=A.N->j<=A.N->t i j=false->ext A (st A i) w=ext A (st A j) w:=by
 intro w
 induction w with
 |nil=>intro i j _ a b h;exact z i j a b h
 |cons k w ih=>
  intro i j c a b h;obtain⟨k1,d⟩:=c.tail;have e:∀i,i<=A.N->ext A (st A i) (k::w)=ext A (st A (toN i k)) w:=λi a=>by
   rw[(y i k a k1).2];unfold st;by_cases h1:i=A.N
   ·rw[if_pos h1,if_pos h1,ext_none _ _ (by omega),ext_none _ _ (by omega)]
   rw[if_neg h1,if_neg h1];simp only[ext,ZE];rw[g_]
  rw[e i a,e j b];exact ih _ _ d (y i k a k1).1 (y j k b k1).1 (H i j k a b k1 h)
end Bm
namespace Bm
def fl (A:Aut) (t:Nat):Int:=A.to (t/A.K) (t%A.K)
def kn (A:Aut):Nat->Nat
 |0=>1
 |t+1=>if fl A t=(kn A t:Int) then kn A t+1 else kn A t
theorem kn_mono (A:Aut) {s t:Nat} (h:s<=t):kn A s<=kn A t:=by
 induction t with
 |zero=>
   have:s=0:=by omega
   subst this;exact Zg _
 |succ t ih=>
  by_cases e:s=t+1
  ·subst e;exact Zg _
  have:=ih (by omega);rw[kn];split<;>omega
theorem fl_at (A:Aut) {s k:Nat} (y:k<A.K):fl A (s*A.K+k)=A.to s k:=by
 unfold fl;have a:0<A.K:=by omega
 rw[Nat.mul_comm,Nat.mul_add_div a,Nat.div_eq_of_lt y,Nat.add_zero,Nat.mul_add_mod,Nat.mod_eq_of_lt y]
structure Bfs (A:Aut):Prop where
 pos:0<A.N
 le:∀t,t<A.N*A.K->fl A t<=kn A t
 row:∀s,s<A.N->s<kn A (s*A.K)
 all:kn A (A.N*A.K)=A.N
variable {A:Aut}
theorem Bfs.lt (h:Bfs A) {t:Nat} (y:t<A.N*A.K):fl A t<kn A (t+1):=by
 have h1:=h.le t y;rw[kn];split<;>omega
theorem kn_le (h:Bfs A) {t:Nat} (y:t<=A.N*A.K):kn A t<=A.N:=by
 have:=kn_mono A y;rw[h.all]at this;exact this
variable {k:Nat}
theorem time_lt {s:Nat} (hs:s<A.N) (y:k<A.K):s*A.K+k<A.N*A.K:=by
 have:(s+1)*A.K<=A.N*A.K:=ZQ _ hs;rw[Nat.add_mul]at this;omega
theorem step_rep (H:Bfs A) {r k m:Nat} (J:r<A.N) (z:k<A.K) (y:A.to r k=(m:Int)):
  (least (alB A) m<kn A (r*A.K+k)/\reps (alB A) (kn A (r*A.K+k+1))=reps (alB A) (kn A (r*A.K+k))) \/
  (least (alB A) m=m/\m=kn A (r*A.K+k)/\reps (alB A) (kn A (r*A.K+k+1))=reps (alB A) (kn A (r*A.K+k))++[m]):=by
 have f:=time_lt J z;have b:=fl_at A (s:=r) z;have c:=H.le _ f;have d:=least_le (alB A) m;rw[b,y]at c;by_cases e:m=kn A (r*A.K+k)
 ·have a:kn A (r*A.K+k+1)=m+1:=by rw[kn,b,y,p_];omega
  rw[a,reps_succ,<-e];by_cases h:least (alB A) m=m
  ·rw[if_pos h];exact Or.inr ⟨h,rfl,rfl⟩
  rw[if_neg h,List.append_nil];exact Or.inl ⟨by omega,rfl⟩
 have a:kn A (r*A.K+k+1)=kn A (r*A.K+k):=by rw[kn,b,y,g_]
 rw[a];exact Or.inl ⟨by omega,rfl⟩
theorem step_none {r:Nat} (y:k<A.K) (z:A.to r k<0):kn A (r*A.K+k+1)=kn A (r*A.K+k):=by
 rw[kn,fl_at A y,g_]
theorem row_other (y:A.Good) (H:Bfs A) {q:Nat} (z:q<A.N) (J:least (alB A) q≠q):∀k,k<=A.K->reps (alB A) (kn A (q*A.K+k))=reps (alB A) (kn A (q*A.K)):=by
 intro k
 induction k with
 |zero=>intro _;rfl
 |succ k ih=>
  intro v;have a:k<A.K:=by omega
  have e:=alB_eqv A A.N;rw[<-ih (by omega),<-ZN];have j:=y.rng q k z a;rcases Int.lt_or_le (A.to q k) 0 with h0|h0
  ·rw[step_none a h0]
  obtain⟨m,f⟩:=ZA h0;rcases step_rep H z a f with h|⟨h1,h2,_⟩
  ·exact h.2
  exfalso;have o:=least_le (alB A) q;have l:Al A (least (alB A) q:Nat) q:=(alB_iff A _ _).1 (least_like e z);generalize least (alB A) q=g at *;have c:g<q:=by omega
  have b:=l.to a;rw[f]at b;have r:=y.rng g k (by omega) a;rcases Int.lt_or_le (A.to g k) 0 with h3|h3
  ·have:A.to g k=-1:=by omega
   rw[this]at b;exact y.live m (by omega) b.symm
  obtain⟨p,i⟩:=ZA h3;rw[i]at b;have u:=H.lt (time_lt (show g<A.N by omega) a);rw[fl_at A a,i]at u;have d:=kn_mono A (s:=g*A.K+k+1) (t:=q*A.K+k) (by
   have:(g+1)*A.K<=q*A.K:=ZQ _ c;rw[Nat.add_mul]at this;omega)
  have n:=least_of_like e (by omega) (show m<A.N by omega) ((alB_iff A p m).2 b);have:=least_le (alB A) p;omega
theorem rows_other (y:A.Good) (z:Bfs A) {a:Nat}:∀d,a+d<=A.N->(∀q,a<=q->q<a+d->least (alB A) q≠q)->reps (alB A) (kn A ((a+d)*A.K))=reps (alB A) (kn A (a*A.K))
 |0,_,_=>rfl
 |d+1,h,hn=>by
  rw[<-rows_other y z d (by omega) (λq h1 h2=>hn q h1 (by omega)),<-row_other y z (show a+d<A.N by omega) (hn (a+d) (by omega) (by omega)) A.K (Zg _),<-ZN,Nat.add_mul,Nat.one_mul]
theorem next_rep (H:A.Good) (z:Bfs A) {r i y:Nat} (J:r<A.N) (h1:(reps (alB A) (kn A ((r+1)*A.K)))[i]?=some r) (h2:(reps (alB A) (kn A ((r+1)*A.K)))[i+1]?=some y):
  r<y/\y<A.N/\least (alB A) y=y/\reps (alB A) (kn A ((r+1)*A.K))=reps (alB A) (kn A (y*A.K)):=by
 obtain⟨g,c,j⟩:=reps_mem h1;obtain⟨k,d,l⟩:=reps_mem h2;have e:=kn_le z (t:=(r+1)*A.K) (ZQ _ J);have b:r<y:=by
  rcases ZD r y with h|h
  ·exact h
  have:=cnt_mono (alB A) h;omega
 refine⟨b,by omega,d,?_⟩;have h3:=rows_other H z (a:=r+1) (y-(r+1)) (by omega) (λq h1 h2 f=>by
  have c1:=cnt_lt c (show r<q by omega);have c2:=cnt_lt f (show q<y by omega);omega)
 rw[show r+1+(y-(r+1))=y by omega]at h3;exact h3.symm
theorem last_rep (z:A.Good) (y:Bfs A) {r i:Nat} (H:r<A.N) (h1:(reps (alB A) (kn A ((r+1)*A.K)))[i]?=some r) (h2:(reps (alB A) (kn A ((r+1)*A.K))).length=i+1):
  reps (alB A) (kn A ((r+1)*A.K))=reps (alB A) A.N:=by
 obtain⟨m,h,n⟩:=reps_mem h1;have c:∀d,r+1+d<=A.N->∀q,r+1<=q->q<r+1+d->least (alB A) q≠q:=by
  intro d
  induction d with
  |zero=>intro _ q h3 j;omega
  |succ d ih=>
   intro s q h3 j g;have b:=ih (by omega);by_cases e:q=r+1+d
   ·subst e;have k:=rows_other z y (a:=r+1) d (by omega) b;have l:=y.row (r+1+d) (by omega);have f:=reps_get (alB A) _ _ l g;rw[k]at f;have o:=(Zi.1 f).1;have p:=cnt_lt h (show r<r+1+d by omega);omega
   exact b q h3 (by omega) g
 have h3:=rows_other z y (a:=r+1) (A.N-(r+1)) (by omega) (c _ (by omega));rw[show r+1+(A.N-(r+1))=A.N by omega,y.all]at h3;exact h3.symm
end Bm
inductive Rx where
 |eps
 |lit (f:Nat->Bool)
 |cat (a b:Rx)
 |alt (a b:Rx)
 |star (a:Rx)
 |plus (a:Rx)
 |opt (a:Rx)
namespace Rx
def sz:Rx->Nat
 |eps=>0
 |lit _=>1
 |cat a b=>a.sz+b.sz
 |alt a b=>a.sz+b.sz
 |star a=>a.sz
 |plus a=>a.sz
 |opt a=>a.sz
def nul:Rx->Bool
 |eps=>true
 |lit _=>false
 |cat a b=>a.nul&&b.nul
 |alt a b=>a.nul || b.nul
 |star _=>true
 |plus a=>a.nul
 |opt _=>true
def fst:Rx->Nat->Nat->Bool
 |eps,_,_=>false
 |lit _,o,p=>p==o
 |cat a b,o,p=>a.fst o p || (a.nul&&b.fst (o+a.sz) p)
 |alt a b,o,p=>a.fst o p || b.fst (o+a.sz) p
 |star a,o,p=>a.fst o p
 |plus a,o,p=>a.fst o p
 |opt a,o,p=>a.fst o p
def lst:Rx->Nat->Nat->Bool
 |eps,_,_=>false
 |lit _,o,p=>p==o
 |cat a b,o,p=>b.lst (o+a.sz) p || (b.nul&&a.lst o p)
 |alt a b,o,p=>a.lst o p || b.lst (o+a.sz) p
 |star a,o,p=>a.lst o p
 |plus a,o,p=>a.lst o p
 |opt a,o,p=>a.lst o p
def fol:Rx->Nat->Nat->Nat->Bool
 |eps,_,_,_=>false
 |lit _,_,_,_=>false
 |cat a b,o,p,q=>a.fol o p q || b.fol (o+a.sz) p q || (a.lst o p&&b.fst (o+a.sz) q)
 |alt a b,o,p,q=>a.fol o p q || b.fol (o+a.sz) p q
 |star a,o,p,q=>a.fol o p q || (a.lst o p&&a.fst o q)
 |plus a,o,p,q=>a.fol o p q || (a.lst o p&&a.fst o q)
 |opt a,o,p,q=>a.fol o p q
def has:Rx->Nat->Nat->Nat->Bool
 |eps,_,_,_=>false
 |lit f,o,p,b=>p==o&&f b
 |cat a b,o,p,c=>a.has o p c || b.has (o+a.sz) p c
 |alt a b,o,p,c=>a.has o p c || b.has (o+a.sz) p c
 |star a,o,p,c=>a.has o p c
 |plus a,o,p,c=>a.has o p c
 |opt a,o,p,c=>a.has o p c
theorem fst_rng:∀(e:Rx) (o p:Nat),e.fst o p=true->o<=p/\p<o+e.sz
 |eps,o,p,h=>by simp[fst]at h
 |lit _,o,p,h=>by simp[fst]at h;subst h;simp[sz]
 |cat a b,o,p,h=>by
  simp only[fst,Bool.or_eq_true,ZS]at h;rcases h with h|⟨_,h⟩
  ·have:=fst_rng a o p h;simp only[sz];omega
  have:=fst_rng b _ p h;simp only[sz];omega
 |alt a b,o,p,h=>by
  simp only[fst,Bool.or_eq_true]at h;rcases h with h|h
  ·have:=fst_rng a o p h;simp only[sz];omega
  have:=fst_rng b _ p h;simp only[sz];omega
 |star a,o,p,h=>fst_rng a o p h
 |plus a,o,p,h=>fst_rng a o p h
 |opt a,o,p,h=>fst_rng a o p h
theorem lst_rng:∀(e:Rx) (o p:Nat),e.lst o p=true->o<=p/\p<o+e.sz
 |eps,o,p,h=>by simp[lst]at h
 |lit _,o,p,h=>by simp[lst]at h;subst h;simp[sz]
 |cat a b,o,p,h=>by
  simp only[lst,Bool.or_eq_true,ZS]at h;rcases h with h|⟨_,h⟩
  ·have:=lst_rng b _ p h;simp only[sz];omega
  have:=lst_rng a _ p h;simp only[sz];omega
 |alt a b,o,p,h=>by
  simp only[lst,Bool.or_eq_true]at h;rcases h with h|h
  ·have:=lst_rng a o p h;simp only[sz];omega
  have:=lst_rng b _ p h;simp only[sz];omega
 |star a,o,p,h=>lst_rng a o p h
 |plus a,o,p,h=>lst_rng a o p h
 |opt a,o,p,h=>lst_rng a o p h
theorem fol_rng:∀(e:Rx) (o p q:Nat),e.fol o p q=true->o<=p/\p<o+e.sz/\o<=q/\q<o+e.sz
 |eps,o,p,q,h=>by simp[fol]at h
 |lit _,o,p,q,h=>by simp[fol]at h
 |cat a b,o,p,q,h=>by
  simp only[fol,Bool.or_eq_true,ZS]at h;rcases h with (h|h)|⟨h,c⟩
  ·have:=fol_rng a o p q h;simp only[sz];omega
  ·have:=fol_rng b _ p q h;simp only[sz];omega
  have:=lst_rng a _ p h;have:=fst_rng b _ q c;simp only[sz];omega
 |alt a b,o,p,q,h=>by
  simp only[fol,Bool.or_eq_true]at h;rcases h with h|h
  ·have:=fol_rng a o p q h;simp only[sz];omega
  have:=fol_rng b _ p q h;simp only[sz];omega
 |star a,o,p,q,h=>by
  simp only[fol,Bool.or_eq_true,ZS]at h;rcases h with h|⟨h,c⟩
  ·exact fol_rng a o p q h
  have:=lst_rng a _ p h;have:=fst_rng a _ q c;simp only[sz];omega
 |plus a,o,p,q,h=>by
  simp only[fol,Bool.or_eq_true,ZS]at h;rcases h with h|⟨h,c⟩
  ·exact fol_rng a o p q h
  have:=lst_rng a _ p h;have:=fst_rng a _ q c;simp only[sz];omega
 |opt a,o,p,q,h=>fol_rng a o p q h
theorem has_rng:∀(e:Rx) (o p b:Nat),e.has o p b=true->o<=p/\p<o+e.sz
 |eps,o,p,_,h=>by simp[has]at h
 |lit _,o,p,_,h=>by simp only[has,ZS,beq_iff_eq]at h;simp[sz];omega
 |cat a b,o,p,c,h=>by
  simp only[has,Bool.or_eq_true]at h;rcases h with h|h
  ·have:=has_rng a o p c h;simp only[sz];omega
  have:=has_rng b _ p c h;simp only[sz];omega
 |alt a b,o,p,c,h=>by
  simp only[has,Bool.or_eq_true]at h;rcases h with h|h
  ·have:=has_rng a o p c h;simp only[sz];omega
  have:=has_rng b _ p c h;simp only[sz];omega
 |star a,o,p,c,h=>has_rng a o p c h
 |plus a,o,p,c,h=>has_rng a o p c h
 |opt a,o,p,c,h=>has_rng a o p c h
variable {e:Rx}
theorem fst_lt {o p:Nat} (h:p<o\/o+e.sz<=p):e.fst o p=false:=by
 cases hf:e.fst o p
 ·rfl
 have:=fst_rng e o p hf;omega
theorem lst_lt {o p:Nat} (h:p<o\/o+e.sz<=p):e.lst o p=false:=by
 cases hf:e.lst o p
 ·rfl
 have:=lst_rng e o p hf;omega
variable {q:Nat}
theorem fol_lt {o p:Nat} (h:p<o\/o+e.sz<=p\/q<o\/o+e.sz<=q):e.fol o p q=false:=by
 cases hf:e.fol o p q
 ·rfl
 have:=fol_rng e o p q hf;omega
variable {b:Nat}
theorem has_lt {o p:Nat} (h:p<o\/o+e.sz<=p):e.has o p b=false:=by
 cases hf:e.has o p b
 ·rfl
 have:=has_rng e o p b hf;omega
def nz (e:Rx):Rx:=if e.sz=0 then eps else e
theorem nz_sz (e:Rx):e.nz.sz=e.sz:=by
 unfold nz;split
 ·rename_i h;rw[h];rfl
 rfl
def rowOf (l:List Rx):Rx:=l.foldl cat eps
def copies (e:Rx) (m n:Nat):List Rx:=(List.range n).map λi=>if i<m then e else opt e
def suf (kd:Int) (le mo:Nat) (e:Rx):Rx:=
 if kd=5 then star e else if kd=6 then plus e else if kd=7 then opt e else rowOf (copies e le mo)
theorem foldl_sz (l:List Rx):∀a:Rx,(l.foldl cat a).sz=a.sz+(l.map sz).sum:=by
 induction l with
 |nil=>intro a;simp
 |cons x l ih=>intro a;simp only[List.foldl_cons,ih,sz,List.map_cons,List.sum_cons];omega
theorem rowOf_sz (l:List Rx):(rowOf l).sz=(l.map sz).sum:=by unfold rowOf;rw[foldl_sz];simp[sz]
theorem rowOf_snoc (l:List Rx) (x:Rx):rowOf (l++[x])=cat (rowOf l) x:=by simp[rowOf]
theorem copies_sz (e:Rx) (m n:Nat):(rowOf (copies e m n)).sz=n*e.sz:=by
 induction n with
 |zero=>simp[copies,rowOf,sz]
 |succ n ih=>
  have:copies e m (n+1)=copies e m n++[if n<m then e else opt e]:=by simp[copies,ZT]
  rw[this,rowOf_snoc,sz,ih,Nat.succ_mul];split<;>rfl
theorem copies_succ (e:Rx) (m n:Nat):copies e m (n+1)=copies e m n++[if n<m then e else opt e]:=by simp[copies,ZT]
end Rx
structure Nd where
 kind:Nat
 kids:List Nat
 up:Int
 at_:Nat
 inn:Nat->Bool
def YG (T:Nat->Nd):Nat->Nat
 |0=>0
 |n+1=>YG T n+if (T n).kind=0 then 1 else 0
theorem VF (T:Nat->Nd) {a b:Nat} (h:a<=b):YG T a<=YG T b:=by
 induction b with
 |zero=>
   have:a=0:=by omega
   subst this;exact Zg _
 |succ b ih=>
  by_cases e:a=b+1
  ·subst e;exact Zg _
  have:=ih (by omega);simp only[YG];omega
variable {s:ByteArray}{kids ks:List Nat}{K N N' P h i j k kind lo m n n' t:Nat}{f inn nl:N_}{E G bg:Nat->N_}{T:Nat->Nd}
theorem Rz {a:Nat} (y:(T m).kind=0) (h:m<a):YG T m<YG T a:=by
 have h1:=VF T (show m+1<=a from h);simp only[YG,y,if_true]at h1;omega
variable {T':Nat->Nd}
theorem Sn:∀n,(∀i,i<n->(T' i).kind=(T i).kind)->YG T' n=YG T n
 |0,_=>rfl
 |n+1,h=>by simp only[YG];rw[Sn n (λi a=>h i (by omega)),h n (by omega)]
def Vt (b e:Nat->Bool):List Nat->Bool
 |[]=>false
 |k::ks=>b k || (e k&&Vt b e ks)
structure BV (T:Nat->Nd) (N:Nat) (nl:Nat->Bool) (bg:Nat->Nat->Bool) (bh:Nat->Option Nat->Bool):Prop where
 nl0:∀n,n<N->(T n).kind=0->nl n=false
 nl1:∀n,n<N->(T n).kind=1\/(T n).kind=4->nl n=(T n).kids.all nl
 nl2:∀n,n<N->(T n).kind=2->nl n=(T n).kids.any nl
 nl3:∀n,n<N->(T n).kind=3->nl n=true
 bg0:∀n m,n<N->(T n).kind=0->bg n m=(n==m)
 bg1:∀n m,n<N->(T n).kind=1->bg n m=Vt (fun k=>bg k m) nl (T n).kids
 bg2:∀n m,n<N->(T n).kind=2\/(T n).kind=3\/(T n).kind=4->bg n m=(T n).kids.any (fun k=>bg k m)
 bhR:∀(n:Nat) (q:Option Nat),n<N->(T n).up<0->bh n q=(q==none)
 bh1:∀(n u:Nat) (q:Option Nat),n<N->(T n).up=(u:Int)->(T u).kind=1->bh n q=(q.any (fun m=>Vt (fun k=>bg k m) nl ((T u).kids.drop ((T n).at_+1))) || (((T u).kids.drop ((T n).at_+1)).all nl&&bh u q))
 bh2:∀(n u:Nat) (q:Option Nat),n<N->(T n).up=(u:Int)->(T u).kind=2->bh n q=bh u q
 bh3:∀(n u:Nat) (q:Option Nat),n<N->(T n).up=(u:Int)->(T u).kind=3\/(T u).kind=4->bh n q=(q.any (fun m=>bg n m) || bh u q)
structure Cf (T:Nat->Nd) (nl:Nat->Bool) (bg:Nat->Nat->Bool) (bh:Nat->Option Nat->Bool) (lo n:Nat) (e:Rx):Prop where
 c:YG T (n+1)=YG T lo+e.sz
 e0:nl n=e.nul
 f:∀m,(T m).kind=0->bg n m=e.fst (YG T lo) (YG T m)
 b:∀m q,lo<=m->m<=n->(T m).kind=0->(∀x,q=some x->(T x).kind=0)->bh m q=(q.any (fun x=>e.fol (YG T lo) (YG T m) (YG T x)) || (e.lst (YG T lo) (YG T m)&&bh n q))
 h:∀m b,lo<=m->m<=n->(T m).kind=0->b<256->(T m).inn b=e.has (YG T lo) (YG T m) b
structure XZ (a b:Rx):Prop where
 s:a.sz=b.sz
 n:a.nul=b.nul
 f:∀o p,a.fst o p=b.fst o p
 l:∀o p,a.lst o p=b.lst o p
 o:∀o p q,a.fol o p q=b.fol o p q
 h:∀o p c,a.has o p c=b.has o p c
theorem XZ.refl (a:Rx):XZ a a:=⟨rfl,rfl,λ_ _=>rfl,λ_ _=>rfl,λ_ _ _=>rfl,λ_ _ _=>rfl⟩
theorem XZ.symm {a b:Rx} (h:XZ a b):XZ b a:=⟨h.s.symm,h.n.symm,λ_ _=>(h.f _ _).symm,λ_ _=>(h.l _ _).symm,λ_ _ _=>(h.o _ _ _).symm,λ_ _ _=>(h.h _ _ _).symm⟩
theorem XZ.trans {a b c:Rx} (h:XZ a b) (k:XZ b c):XZ a c:=⟨h.s.trans k.s,h.n.trans k.n,λ_ _=>(h.f _ _).trans (k.f _ _),λ_ _=>(h.l _ _).trans (k.l _ _),λ_ _ _=>(h.o _ _ _).trans (k.o _ _ _),λ_ _ _=>(h.h _ _ _).trans (k.h _ _ _)⟩
variable {e e':Rx}
theorem Cf.eq {bh:Nat->Option Nat->Bool} (h:Cf T nl bg bh lo n e) (k:XZ e e'):Cf T nl bg bh lo n e':=
 ⟨by rw[<-k.s];exact h.c,by rw[<-k.n];exact h.e0,fun m hm=>by rw[<-k.f];exact h.f m hm,
  fun m q h1 h2 h3 h4=>by
  rw[h.b m q h1 h2 h3 h4,k.l];congr 2
  funext x;exact k.o _ _ _,
  fun m b h1 h2 h3 h4=>by rw[<-k.h];exact h.h m b h1 h2 h3 h4⟩
theorem XZ.alt_assoc (a b c:Rx):XZ (.alt (.alt a b) c) (.alt a (.alt b c)):=by
 refine⟨?_,?_,λo p=>?_,λo p=>?_,λo p q=>?_,λo p q=>?_⟩
 ·simp only[Rx.sz];omega
 ·simp only[Rx.nul];exact Bool.or_assoc ..
 ·simp only[Rx.fst,Rx.sz,<-ZN];exact Bool.or_assoc ..
 ·simp only[Rx.lst,Rx.sz,<-ZN];exact Bool.or_assoc ..
 ·simp only[Rx.fol,Rx.sz,<-ZN];exact Bool.or_assoc ..
 simp only[Rx.has,Rx.sz,<-ZN];exact Bool.or_assoc ..
theorem XZ.opt_alt (a:Rx):XZ (.alt a .eps) (.opt a):=by
 refine⟨?_,?_,λo p=>?_,λo p=>?_,λo p q=>?_,λo p q=>?_⟩<;>simp[Rx.sz,Rx.nul,Rx.fst,Rx.lst,Rx.fol,Rx.has]
theorem XZ.cat_eps (a:Rx):XZ (.cat .eps a) a:=by
 refine⟨?_,?_,λo p=>?_,λo p=>?_,λo p q=>?_,λo p q=>?_⟩<;>simp[Rx.sz,Rx.nul,Rx.fst,Rx.lst,Rx.fol,Rx.has]
def V8:List Rx->Rx
 |[]=>.eps
 |x::xs=>xs.foldl .alt x
theorem Nr (l:List Rx) (e:Rx):V8 (l++[e])=if l=[] then e else .alt (V8 l) e:=by
 rcases l with _|⟨x,xs⟩
 ·rfl
 simp[V8]
theorem JF:∀(l:List Rx) (e:Rx),XZ (V8 (l++[e])) (l.foldr .alt e):=by
 have a:∀(l:List Rx) (x e:Rx),XZ ((l++[e]).foldl .alt x) (.alt x (l.foldr .alt e)):=by
  intro l
  induction l with
  |nil=>intro x e;exact XZ.refl _
  |cons y l ih=>
   intro x e;simp only[Zt,List.foldl_cons,List.foldr_cons];exact(ih (.alt x y) e).trans (XZ.alt_assoc _ _ _)
 intro l e;rcases l with _|⟨x,xs⟩
 ·exact XZ.refl _
 exact a xs x e
structure Ia (T T':Nat->Nd) (lo n:Nat):Prop where
 k:∀i,i<=n->(T' i).kind=(T i).kind/\(T' i).kids=(T i).kids/\(T' i).inn=(T i).inn
 u:∀i,lo<=i->i<n->(T' i).up=(T i).up/\(T' i).at_=(T i).at_
theorem Ia.trans {y:Nat->Nd} (h:Ia T T' lo n) (k:Ia T' y lo n):Ia T y lo n:=
 ⟨λi a=>⟨(k.k i a).1.trans (h.k i a).1,(k.k i a).2.1.trans (h.k i a).2.1,(k.k i a).2.2.trans (h.k i a).2.2⟩,λi h1 h2=>⟨(k.u i h1 h2).1.trans (h.u i h1 h2).1,(k.u i h1 h2).2.trans (h.u i h1 h2).2⟩⟩
theorem Ia.mono {lo':Nat} (h:Ia T T' lo n) (h1:lo<=lo') (h2:n'<=n):Ia T T' lo' n':=
 ⟨λi c=>h.k i (by omega),λi a b=>h.u i (by omega) (by omega)⟩
def Vw (T:Nat->Nd) (lo n:Nat) (e:Rx):Prop:=∀T' N' nl bg bh,Ia T T' lo n->n<N'->BV T' N' nl bg bh->Cf T' nl bg bh lo n e
theorem Vw.eq (h:Vw T lo n e) (k:XZ e e'):Vw T lo n e':=λT' N' nl bg bh h1 h2 h3=>(h T' N' nl bg bh h1 h2 h3).eq k
theorem Vw.ext (h:Vw T lo n e) (k:Ia T T' lo n):Vw T' lo n e:=λa N' nl bg bh h1 h2 h3=>h a N' nl bg bh (k.trans h1) h2 h3
inductive Rr (T:Nat->Nd):Nat->Nat->Bool->Prop
 |stop {k:Nat} (h1:(T k).kind≠3) (h2:(T k).kids.length≠1) (h3:∀c d,(T k).kids=[c,d]->(T k).kind=2->¬((T d).kind=1/\(T d).kids=[])):Rr T k k false
 |star {k c k':Nat}{b:Bool} (h1:(T k).kind=3) (h2:(T k).kids=[c]) (h:Rr T c k' b):Rr T k k' true
 |one {k c k':Nat}{b:Bool} (h1:(T k).kind≠3) (h2:(T k).kids=[c]) (h:Rr T c k' b):Rr T k k' b
 |may {k c d k':Nat}{b:Bool} (h1:(T k).kind=2) (h2:(T k).kids=[c,d]) (h3:(T d).kind=1) (h4:(T d).kids=[]) (h:Rr T c k' b):Rr T k k' true
def Wf (T:Nat->Nd) (N:Nat):Prop:=∀i,i<N->∀c∈(T i).kids,c<i
theorem Rr.ext (y:Wf T N) {k z:Nat}{b:Bool} (h:Rr T k z b):k<N->(∀i,i<=k->(T' i).kind=(T i).kind/\(T' i).kids=(T i).kids)->Rr T' k z b:=by
 induction h with
 |stop h1 h2 h3=>
  intro f a;rename_i k;obtain⟨e,e2⟩:=a k (Zg _);refine Rr.stop (by rw[e];exact h1) (by rw[e2];exact h2) (λc d g p m=>?_);rw[e2]at g;have q:=y k f d (by rw[g];simp);obtain⟨j,l⟩:=a d (by omega);rw[j,l]at m;exact h3 c d g (by rw[<-e];exact p) m
 |star h1 h2 h ih=>
  intro f a;rename_i k c z b;obtain⟨e,e2⟩:=a k (Zg _);have n:=y k f c (by rw[h2];simp);exact Rr.star (by rw[e];exact h1) (by rw[e2];exact h2) (ih (by omega) (λi o=>a i (by omega)))
 |one h1 h2 h ih=>
  intro f a;rename_i k c z b;obtain⟨e,e2⟩:=a k (Zg _);have n:=y k f c (by rw[h2];simp);exact Rr.one (by rw[e];exact h1) (by rw[e2];exact h2) (ih (by omega) (λi o=>a i (by omega)))
 |may h1 h2 h3 g h ih=>
  intro f a;rename_i k c d z b;obtain⟨e,e2⟩:=a k (Zg _);have n:=y k f c (by rw[h2];simp);have q:=y k f d (by rw[h2];simp);obtain⟨j,l⟩:=a d (by omega);exact Rr.may (by rw[e];exact h1) (by rw[e2];exact h2) (by rw[j];exact h3) (by rw[l];exact g) (ih (by omega) (λi o=>a i (by omega)))
structure Wg (a b:Rx):Prop where
 s:a.sz=b.sz
 f:∀o p,a.fst o p=b.fst o p
 l:∀o p,a.lst o p=b.lst o p
 o:∀o p q,(a.fol o p q || (a.lst o p&&a.fst o q))=(b.fol o p q || (b.lst o p&&b.fst o q))
 h:∀o p c,a.has o p c=b.has o p c
theorem Wg.of {a b:Rx} (h:XZ a b):Wg a b:=⟨h.s,h.f,h.l,λo p q=>by rw[h.o,h.l,h.f],h.h⟩
theorem Wg.trans {a b c:Rx} (h:Wg a b) (k:Wg b c):Wg a c:=⟨h.s.trans k.s,λ_ _=>(h.f _ _).trans (k.f _ _),λ_ _=>(h.l _ _).trans (k.l _ _),λ_ _ _=>(h.o _ _ _).trans (k.o _ _ _),λ_ _ _=>(h.h _ _ _).trans (k.h _ _ _)⟩
structure Good (T:Nat->Nd) (N lo k:Nat) (e:Rx):Prop where
 lt:k<N
 ge:lo<=k
 cl:YG T (k+1)=YG T lo+e.sz
 st:Vw T lo k e
 un:∃k' b e',Rr T k k' b/\lo<=k'/\k'<=k/\Vw T lo k' e'/\YG T (k'+1)=YG T (k+1)/\Wg e' e/\(b=false->e'.nul=e.nul)/\(b=true->e.nul=true)
variable {e2:Rx}
theorem Good.eq (h:Good T N lo k e) (q:XZ e e2):Good T N lo k e2:=by
 refine⟨h.lt,h.ge,by rw[<-q.s];exact h.cl,h.st.eq q,?_⟩;obtain⟨j,b,e',h1,h2,h3,c,d,f,g,i⟩:=h.un;exact⟨j,b,e',h1,h2,h3,c,d,f.trans (Wg.of q),λa=>by rw[g a,q.n],λa=>by rw[<-q.n];exact i a⟩
theorem Good.ext (z:Wf T N) (h:Good T N lo k e) (y:Ia T T' lo k) (H:N<=N'):Good T' N' lo k e:=by
 have a:∀n,n<=k+1->YG T' n=YG T n:=λn l=>Sn n (λi c=>(y.k i (by omega)).1)
 refine⟨by have:=h.lt;omega,h.ge,by rw[a _ (by omega),a _ (by have:=h.ge;omega)];exact h.cl,h.st.ext y,?_⟩;obtain⟨j,b,e',h1,h2,h3,d,f,g⟩:=h.un;exact⟨j,b,e',h1.ext z h.lt (λi c=>⟨(y.k i c).1,(y.k i c).2.1⟩),h2,h3,d.ext (y.mono (Zg _) h3),by rw[a _ (by omega),a _ (by omega)];exact f,g⟩
inductive YE (T:Nat->Nd) (N:Nat):Nat->List Nat->List Rx->Nat->Prop
 |nil (lo:Nat):YE T N lo [] [] lo
 |snoc {lo h k:Nat}{ks:List Nat}{es:List Rx}{e:Rx} (c:YE T N lo ks es h) (g:Good T N h k e):YE T N lo (ks++[k]) (es++[e]) (k+1)
theorem YE.le {es:List Rx} (c:YE T N lo ks es h):lo<=h/\ks.length=es.length/\(∀k∈ks,lo<=k/\k<h)/\(ks≠[]->h<=N):=by
 induction c with
 |nil=>exact⟨Zg _,rfl,by simp,by simp⟩
 |snoc c g ih=>
  obtain⟨h1,h2,h3,b⟩:=ih;have:=g.ge;refine⟨by omega,by simp[h2],λx a=>?_,λ_=>g.lt⟩;rcases ZU.1 a with h|h
  ·have:=h3 x h;omega
  rw[ZC.1 h];omega
theorem YE.cl {es:List Rx} (c:YE T N lo ks es h):YG T h=YG T lo+(es.map Rx.sz).sum:=by
 induction c with
 |nil=>simp
 |snoc c g ih=>rw[g.cl,ih];simp;omega
theorem Ej (l:List Rx):(V8 l).sz=(l.map Rx.sz).sum:=by
 have a:∀(l:List Rx) (x:Rx),(l.foldl .alt x).sz=x.sz+(l.map Rx.sz).sum:=by
  intro l
  induction l with
  |nil=>intro x;simp
  |cons y l ih=>intro x;simp only[List.foldl_cons,ih,Rx.sz,List.map_cons,List.sum_cons];omega
 rcases l with _|⟨x,l⟩
 ·rfl
 simp[V8,a]
theorem YE.ext {es:List Rx} (J:Wf T N) (c:YE T N lo ks es h) (y:∀i,i<h->(T' i).kind=(T i).kind/\(T' i).kids=(T i).kids/\(T' i).inn=(T i).inn)
  (z:∀i,lo<=i->i<h->i ∉ ks->(T' i).up=(T i).up/\(T' i).at_=(T i).at_) (H:N<=N'):YE T' N' lo ks es h:=by
 induction c with
 |nil=>exact YE.nil _
 |snoc c g ih=>
  rename_i h k ks es e;obtain⟨h1,_,h3,_⟩:=c.le;have l:=g.ge;refine YE.snoc (ih (λi f=>y i (by omega)) (λi a b j=>z i a (by omega) (λd=>?_))) (g.ext J ⟨λi f=>y i (by omega),λi a b=>z i (by omega) (by omega) (λd=>?_)⟩ H)
  ·rcases ZU.1 d with d|d
   ·exact j d
   rw[ZC.1 d]at b;omega
  rcases ZU.1 d with d|d
  ·have:=h3 i d;omega
  rw[ZC.1 d]at b;omega
inductive CS (T:Nat->Nd) (nl:Nat->Bool) (bg:Nat->Nat->Bool) (bh:Nat->Option Nat->Bool):Nat->List Nat->List Rx->Nat->Prop
 |nil (lo:Nat):CS T nl bg bh lo [] [] lo
 |snoc {lo h k:Nat}{ks:List Nat}{es:List Rx}{e:Rx} (c:CS T nl bg bh lo ks es h) (hk:h<=k) (g:Cf T nl bg bh h k e):CS T nl bg bh lo (ks++[k]) (es++[e]) (k+1)
theorem CS.le {bh:Nat->Option Nat->Bool}{es:List Rx} (c:CS T nl bg bh lo ks es h):lo<=h:=by
 induction c with
 |nil=>exact Zg _
 |snoc c hk g ih=>omega
theorem CS.none {bh:Nat->Option Nat->Bool}{es:List Rx} (c:CS T nl bg bh lo ks es h) (y:ks=[]):lo=h:=by
 cases c with
 |nil=>rfl
 |snoc c y g=>simp at y
theorem YE.cs {es:List Rx}{bh:Nat->Option Nat->Bool} (c:YE T N lo ks es h) (y:∀i,i<h->(T' i).kind=(T i).kind/\(T' i).kids=(T i).kids/\(T' i).inn=(T i).inn)
  (z:∀i,lo<=i->i<h->i ∉ ks->(T' i).up=(T i).up/\(T' i).at_=(T i).at_) (J:h<=N') (H:BV T' N' nl bg bh):CS T' nl bg bh lo ks es h:=by
 induction c with
 |nil=>exact CS.nil _
 |snoc c g ih=>
  rename_i h k ks es e;obtain⟨h1,_,h3,_⟩:=c.le;have f:=g.ge;refine CS.snoc (ih (λi j=>y i (by omega)) (λi a b l=>z i a (by omega) (λd=>?_)) (by omega)) f (g.st T' N' nl bg bh ⟨λi j=>y i (by omega),λi a b=>z i (by omega) (by omega) (λd=>?_)⟩ (by omega) H)
  ·rcases ZU.1 d with d|d
   ·exact l d
   rw[ZC.1 d]at b;omega
  rcases ZU.1 d with d|d
  ·have:=h3 i d;omega
  rw[ZC.1 d]at b;omega
theorem Tl (b e:N_) (x y:List Nat):Vt b e (x++y)=(Vt b e x || (x.all e&&Vt b e y)):=by
 induction x with
 |nil=>simp[Vt]
 |cons k x ih=>simp only[Zt,Vt,ih,List.all_cons];cases b k<;>cases e k<;>simp
theorem CS.row {bh:Nat->Option Nat->Bool} (Z:BV T N nl bg bh) {M:Nat}{H:List Nat} (hM:(T M).kind=1) (J:(T M).kids=H) (Y:∀j k,H[j]?=some k->k<N/\(T k).up=(M:Int)/\(T k).at_=j)
  {lo h:Nat}{ks:List Nat}{es:List Rx} (c:CS T nl bg bh lo ks es h):∀rest,H=ks++rest ->
  YG T h=YG T lo+(Rx.rowOf es).sz/\(Rx.rowOf es).nul=ks.all nl/\(∀m,(T m).kind=0->Vt (λk=>bg k m) nl ks=(Rx.rowOf es).fst (YG T lo) (YG T m)) /\
  (∀m q,lo<=m->m<h->(T m).kind=0->(∀x,q=some x->(T x).kind=0)->bh m q=(q.any (λx=>(Rx.rowOf es).fol (YG T lo) (YG T m) (YG T x)) || ((Rx.rowOf es).lst (YG T lo) (YG T m)&&(q.any (λx=>Vt (λk=>bg k x) nl rest) || (rest.all nl&&bh M q))))) /\
  (∀m b,lo<=m->m<h->(T m).kind=0->b<256->(T m).inn b=(Rx.rowOf es).has (YG T lo) (YG T m) b):=by
 induction c with
 |nil=>
  intro rest _;refine⟨by simp[Rx.rowOf,Rx.sz],by simp[Rx.rowOf,Rx.nul],λm _=>by simp[Vt,Rx.rowOf,Rx.fst],λm q h1 h2=>by omega,λm b h1 h2=>by omega⟩
 |snoc c hk g ih=>
  rename_i h k ks es e;intro rest i;obtain⟨w,u,y,z,A⟩:=ih (k::rest) (by rw[i];simp);have v:=c.le;obtain⟨u0,u1,u2⟩:=Y ks.length k (by rw[i];simp);rw[Rx.rowOf_snoc];have l:H.drop (ks.length+1)=rest:=by rw[i];simp
  have o:∀q,bh k q=(q.any (λx=>Vt (λk=>bg k x) nl rest) || (rest.all nl&&bh M q)):=λq=>by
   rw[Z.bh1 k M q u0 u1 hM,J,u2,l]
  have p:=w.symm;refine⟨?_,?_,λm t=>?_,λm q h1 h2 h3 n=>?_,λm b h1 h2 h3 n=>?_⟩
  ·rw[g.c,Rx.sz];omega
  ·simp only[Rx.nul,u,List.all_append,List.all_cons,List.all_nil,Bool.and_true,g.e0]
  ·simp only[Tl,Vt,Rx.fst,y m t,p,u,Bool.and_false,Bool.or_false,g.f m t]
  ·simp only[Rx.fol,Rx.lst,p];by_cases d:m<h
   ·have a:=Rz h3 d;rw[z m q h1 d h3 n];have r:∀x,e.fol (YG T h) (YG T m) x=false:=λx=>Rx.fol_lt (Or.inl a)
    have s:e.lst (YG T h) (YG T m)=false:=Rx.lst_lt (Or.inl a);simp only[r,s,Bool.or_false,Bool.false_or,List.all_cons,g.e0];rcases q with _|x
    ·simp only[Option.any_none,Bool.false_or];cases (Rx.rowOf es).lst (YG T lo) (YG T m)<;>cases e.nul<;>simp
    simp only[Option.any_some,Vt,g.e0,g.f x (n x rfl)];cases (Rx.rowOf es).fol (YG T lo) (YG T m) (YG T x)<;>cases (Rx.rowOf es).lst (YG T lo) (YG T m)<;>cases e.nul<;>cases e.fst (YG T h) (YG T x)<;>simp
   have a:=VF T (show h<=m by omega);rw[g.b m q (by omega) (by omega) h3 n,o];have r:∀x,(Rx.rowOf es).fol (YG T lo) (YG T m) x=false:=λx=>Rx.fol_lt (Or.inr (Or.inl (by omega)))
   have s:(Rx.rowOf es).lst (YG T lo) (YG T m)=false:=Rx.lst_lt (Or.inr (by omega));simp only[r,s,Bool.and_false,Bool.or_false,Bool.false_or,Bool.false_and]
  simp only[Rx.has,p];by_cases d:m<h
  ·have a:=Rz h3 d;rw[A m b h1 d h3 n,Rx.has_lt (e:=e) (Or.inl a),Bool.or_false]
  have a:=VF T (show h<=m by omega);rw[g.h m b (by omega) (by omega) h3 n,Rx.has_lt (e:=Rx.rowOf es) (Or.inr (by omega)),Bool.false_or]
theorem CS.choice {bh:Nat->Option Nat->Bool} (H:BV T N nl bg bh) {M:Nat} (J:(T M).kind=2)
  {lo h:Nat}{ks:List Nat}{es:List Rx} (c:CS T nl bg bh lo ks es h):(∀k∈ks,k<N/\(T k).up=(M:Int))->ks≠[] ->
  YG T h=YG T lo+(V8 es).sz/\(V8 es).nul=ks.any nl/\(∀m,(T m).kind=0->ks.any (λk=>bg k m)=(V8 es).fst (YG T lo) (YG T m)) /\
  (∀m q,lo<=m->m<h->(T m).kind=0->(∀x,q=some x->(T x).kind=0)->bh m q=(q.any (λx=>(V8 es).fol (YG T lo) (YG T m) (YG T x)) || ((V8 es).lst (YG T lo) (YG T m)&&bh M q))) /\
  (∀m b,lo<=m->m<h->(T m).kind=0->b<256->(T m).inn b=(V8 es).has (YG T lo) (YG T m) b):=by
 induction c with
 |nil=>intro _ h;exact absurd rfl h
 |snoc c hk g ih=>
  rename_i h k ks es e;intro o _;have w:=c.le;obtain⟨u0,u1⟩:=o k (by simp);have n:∀q,bh k q=bh M q:=λq=>H.bh2 k M q u0 u1 J
  have l:ks=[]<->es=[]:=by
   cases c with
   |nil=>simp
   |snoc c hk g=>simp
  by_cases j:ks=[]
  ·have r:=l.1 j;subst j;subst r;have s:=c.none rfl;subst s;rw[Nr,if_pos rfl];refine⟨g.c,by simp[g.e0],λm p=>by simp[g.f m p],λm q h1 h2 h3 i=>by rw[g.b m q h1 (by omega) h3 i,n],λm b h1 h2 h3 i=>g.h m b h1 (by omega) h3 i⟩
  obtain⟨z,A,B,C,D⟩:=ih (λx y=>o x (by simp[y])) j;rw[Nr,if_neg (λx=>j (l.2 x))];have t:=z.symm;refine⟨?_,?_,λm p=>?_,λm q h1 h2 h3 i=>?_,λm b h1 h2 h3 i=>?_⟩
  ·rw[g.c,Rx.sz];omega
  ·simp only[Rx.nul,A,List.any_append,List.any_cons,List.any_nil,Bool.or_false,g.e0]
  ·simp only[List.any_append,List.any_cons,List.any_nil,Bool.or_false,Rx.fst,B m p,t,g.f m p]
  ·simp only[Rx.fol,Rx.lst,t];by_cases d:m<h
   ·have a:=Rz h3 d;rw[C m q h1 d h3 i];have u:∀x,e.fol (YG T h) (YG T m) x=false:=λx=>Rx.fol_lt (Or.inl a)
    have v:e.lst (YG T h) (YG T m)=false:=Rx.lst_lt (Or.inl a);simp only[u,v,Bool.or_false]
   have a:=VF T (show h<=m by omega);rw[g.b m q (by omega) (by omega) h3 i,n];have u:∀x,(V8 es).fol (YG T lo) (YG T m) x=false:=λx=>Rx.fol_lt (Or.inr (Or.inl (by omega)))
   have v:(V8 es).lst (YG T lo) (YG T m)=false:=Rx.lst_lt (Or.inr (by omega));simp only[u,v,Bool.false_or]
  simp only[Rx.has,t];by_cases d:m<h
  ·have a:=Rz h3 d;rw[D m b h1 d h3 i,Rx.has_lt (e:=e) (Or.inl a),Bool.or_false]
  have a:=VF T (show h<=m by omega);rw[g.h m b (by omega) (by omega) h3 i,Rx.has_lt (e:=V8 es) (Or.inr (by omega)),Bool.false_or]
def Yx (T:Nat->Nd) (N kind:Nat) (kids:List Nat) (inn:Nat->Bool):Nat->Nd:=λi=>
 if i=N then ⟨kind,kids,-1,0,inn⟩ else if i∈kids then { T i with up:=N,at_:=kids.idxOf i } else T i
theorem YQ (T:Nat->Nd) (N kind:Nat) (kids:List Nat) (inn:N_):Yx T N kind kids inn N=⟨kind,kids,-1,0,inn⟩:=by simp[Yx]
theorem XE (h:i<N):(Yx T N kind kids inn i).kind=(T i).kind/\(Yx T N kind kids inn i).kids=(T i).kids/\(Yx T N kind kids inn i).inn=(T i).inn:=by
 unfold Yx;rw[g_];split<;>exact⟨rfl,rfl,rfl⟩
theorem Xe (h:i<N) (y:i ∉ kids):Yx T N kind kids inn i=T i:=by
 unfold Yx;rw[g_,if_neg y]
theorem Nq (z:kids.Nodup) (y:kids[j]?=some k) (h:k<N):(Yx T N kind kids inn k).up=(N:Int)/\(Yx T N kind kids inn k).at_=j:=by
 unfold Yx;rw[g_,if_pos (List.mem_of_getElem? y)];refine⟨rfl,?_⟩;obtain⟨h1,h2⟩:=Zi.1 y;show kids.idxOf k=j;rw[<-h2];exact z.idxOf_getElem j h1
theorem Wf.add (h:Wf T N) (y:∀k∈kids,k<N):Wf (Yx T N kind kids inn) (N+1):=λi b c a=>by
 by_cases e:i=N
 ·subst e;rw[YQ]at a;exact y c a
 rw[(XE (show i<N by omega)).2.1]at a;exact h i (by omega) c a
def If (T:Nat->Nd) (N:Nat):Prop:=∀i,i<N->(T i).up=-1\/((i:Int)<(T i).up/\(T i).up<N)
theorem If.add (h:If T N):If (Yx T N kind kids inn) (N+1):=λi a=>by
 unfold Yx;by_cases e:i=N
 ·rw[if_pos e];exact Or.inl rfl
 rw[if_neg e];split
 ·exact Or.inr ⟨by show(i:Int)<N;omega,by show(N:Int)<((N+1:Nat):Int);omega⟩
 have:=h i (by omega);omega
theorem VO (h:n<=N):YG (Yx T N kind kids inn) n=YG T n:=Sn n (λi a=>(XE (by omega)).1)
theorem YE.nodup {es:List Rx} (c:YE T N lo ks es h):ks.Nodup:=by
 induction c with
 |nil=>exact List.nodup_nil
 |snoc c g ih=>
  rename_i h k ks es e;refine List.nodup_append.2 ⟨ih,by simp,λa ha b d=>?_⟩;have h1:=c.le.2.2.1 a ha;have h2:=g.ge;rw[ZC.1 d];omega
theorem YE.inv {L:List Nat}{es:List Rx} (c:YE T N lo L es h):∀ks k,L=ks++[k]->∃es' e h',es=es'++[e]/\h=k+1/\YE T N lo ks es' h'/\Good T N h' k e:=by
 intro ks k a;cases c with
 |nil=>simp at a
 |snoc c g=>
  obtain⟨h1,h2⟩:=List.append_inj' a rfl;simp at h2;subst h1;subst h2;exact⟨_,_,_,rfl,rfl,c,g⟩
theorem YE.nil_inv {es:List Rx} (c:YE T N lo [] es h):es=[]/\h=lo:=by
 generalize hz:([]:List Nat)=z at c;cases c with
 |nil=>exact⟨rfl,rfl⟩
 |snoc c g=>simp at hz
theorem YE.one {es:List Rx} (c:YE T N lo [k] es h):∃e,es=[e]/\h=k+1/\Good T N lo k e:=by
 obtain⟨a,e,d,h1,h2,h3,b⟩:=c.inv [] k rfl;obtain⟨rfl,rfl⟩:=h3.nil_inv;exact⟨e,h1,h2,b⟩
theorem YE.two {es:List Rx} (c:YE T N lo [k,j] es h):∃e f,es=[e,f]/\h=j+1/\Good T N lo k e/\Good T N (k+1) j f:=by
 obtain⟨a,e,g,h1,h2,h3,b⟩:=c.inv [k] j rfl;obtain⟨e2,rfl,rfl,d⟩:=h3.one;exact⟨e2,e,h1,h2,d,b⟩
structure TD (T:Nat->Nd) (N lo k:Nat) (e:Rx):Prop extends Good T N lo k e where
 br:(T k).kind=1->(T k).kids=[]->e.sz=0/\e.nul=true
theorem TD.eq (h:TD T N lo k e) (q:XZ e e2):TD T N lo k e2:=
 ⟨h.toGood.eq q,λh1 h2=>by obtain⟨a,b⟩:=h.br h1 h2;exact⟨by rw[<-q.s];exact a,by rw[<-q.n];exact b⟩⟩
theorem Kp (T:Nat->Nd) (N:Nat) (inn:N_):TD (Yx T N 0 [] inn) (N+1) N N (.lit inn):=by
 have a:Vw (Yx T N 0 [] inn) N N (.lit inn):=by
  intro T' N' nl bg bh o g f;obtain⟨k1,p,i⟩:=o.k N (Zg _);rw[YQ]at k1 p i;have e:=k1;have l:YG T' (N+1)=YG T' N+1:=by simp[YG,e]
  refine⟨l,f.nl0 N g k1,λm n=>?_,λm q h1 h2 h3 j=>?_,λm b h1 h2 h3 j=>?_⟩
  ·rw[f.bg0 N m g k1];simp only[Rx.fst];rcases Nat.lt_trichotomy m N with h|h|h
   ·have:=Rz n h;rw[show(N==m)=false by simp;omega,show(YG T' m==YG T' N)=false by simp;omega]
   ·subst h;simp
   have:=VF T' (show N+1<=m from h);rw[show(N==m)=false by simp;omega,show(YG T' m==YG T' N)=false by simp;omega]
  ·have:m=N:=by omega
   subst this;simp only[Rx.fol,Rx.lst,beq_self_eq_true,Bool.true_and];cases q<;>simp
  have:m=N:=by omega
  subst this;rw[i];simp[Rx.has]
 refine⟨⟨by omega,Zg _,by simp[YG,YQ,Rx.sz],a,N,false,.lit inn,Rr.stop (by rw[YQ];simp) (by rw[YQ];simp) (λc d h=>by rw[YQ]at h;cases h),Zg _,Zg _,a,rfl,Wg.of (XZ.refl _),λ_=>rfl,(λh=>by cases h)⟩,λh=>?_⟩;rw[YQ]at h;cases h
theorem Oq {es:List Rx} (Y:Wf T N) (c:YE T N lo ks es N):TD (Yx T N 1 ks (λ_=>false)) (N+1) lo N (Rx.rowOf es):=by
 obtain⟨C,G,L,_⟩:=c.le;have B:=c.nodup;have p:Vw (Yx T N 1 ks (λ_=>false)) lo N (Rx.rowOf es):=by
  intro T' N' nl bg bh n D s;obtain⟨k1,r,_⟩:=n.k N (Zg _);rw[YQ]at k1 r;simp only at k1 r;have z:=c.cs (T':=T') (N':=N') (λi E=>by
   obtain⟨f,l,H⟩:=n.k i (by omega);obtain⟨t,v,I⟩:=XE (T:=T) (kind:=1) (kids:=ks) (inn:=λ_=>false) E;exact⟨f.trans t,l.trans v,H.trans I⟩) (λi h1 h2 h3=>by
   obtain⟨f,l⟩:=n.u i h1 h2;rw[Xe h2 h3]at f l;exact⟨f,l⟩) (by omega) s
  obtain⟨M,O,P,Q,R⟩:=CS.row s k1 r (λj k F=>by
   have A:=L k (List.mem_of_getElem? F);obtain⟨f,l⟩:=n.u k A.1 A.2;obtain⟨t,v⟩:=Nq (T:=T) (kind:=1) (inn:=λ_=>false) B F A.2;exact⟨by omega,f.trans t,l.trans v⟩) z [] (by simp)
  have J:YG T' (N+1)=YG T' N:=by simp[YG,k1]
  refine⟨by rw[J];exact M,by rw[s.nl1 N D (Or.inl k1),r];exact O.symm,λm o=>by rw[s.bg1 N m D k1,r];exact P m o,λm q h1 h2 h3 w=>?_,λm b h1 h2 h3 w=>?_⟩
  ·have o:m<N:=by
    rcases ZD m N with h|h
    ·exact h
    have:m=N:=by omega
    rw[this,k1]at h3;cases h3
   rw[Q m q h1 o h3 w];cases q<;>simp[Vt]
  have o:m<N:=by
   rcases ZD m N with h|h
   ·exact h
   have:m=N:=by omega
   rw[this,k1]at h3;cases h3
  exact R m b h1 o h3 w
 have y:YG (Yx T N 1 ks (λ_=>false)) (N+1)=YG (Yx T N 1 ks (λ_=>false)) lo+(Rx.rowOf es).sz:=by
  rw[show YG (Yx T N 1 ks (λ_=>false)) (N+1)=YG (Yx T N 1 ks (λ_=>false)) N by simp[YG,YQ],VO (Zg _),VO C,Rx.rowOf_sz];exact c.cl
 refine⟨⟨by omega,C,y,p,?_⟩,λ_ h2=>?_⟩
 ·by_cases h1:ks.length=1
  ·obtain⟨k,rfl⟩:=List.length_eq_one_iff.1 h1;obtain⟨e,rfl,rfl,g⟩:=c.one
   ·have n:Ia T (Yx T (k+1) 1 [k] (λ_=>false)) lo k:=⟨λi E=>XE (by omega),λi a b=>by rw[Xe (by omega) (by simp;omega)];exact⟨rfl,rfl⟩⟩;obtain⟨K,b,e',u1,u2,u3,u4,u5,u6,u7,u8⟩:=(g.ext Y n (by omega:k+1<=k+1+1)).un;refine⟨K,b,e',Rr.one (c:=k) (by rw[YQ];simp) (by rw[YQ]) u1,u2,by omega,u4,?_,u6.trans (Wg.of (XZ.cat_eps e).symm),λx=>?_,λx=>?_⟩
    ·rw[u5];simp[YG,YQ]
    ·rw[u7 x];simp[Rx.rowOf,Rx.nul]
    simp[Rx.rowOf,Rx.nul,u8 x]
  exact⟨N,false,_,Rr.stop (by rw[YQ];simp) (by rw[YQ];exact h1) (λc d _ h=>by rw[YQ]at h;cases h),C,Zg _,p,rfl,Wg.of (XZ.refl _),λ_=>rfl,λh=>by cases h⟩
 rw[YQ]at h2;have:es=[]:=by
  rw[show ks=[] from h2]at G;exact List.eq_nil_of_length_eq_zero G.symm
 subst this;exact⟨rfl,rfl⟩
def YE.FineL (T:Nat->Nd) (ks:List Nat) (es:List Rx):Prop:=∀(j k:Nat) (e:Rx),ks[j]?=some k->es[j]?=some e->(T k).kind=1->(T k).kids=[]->e.sz=0/\e.nul=true
theorem Ek {a b:Rx} (h:b.sz=0):Wg a (.alt a b):=by
 have d:∀o p,b.fst o p=false:=λo p=>Rx.fst_lt (by omega)
 have e:∀o p,b.lst o p=false:=λo p=>Rx.lst_lt (by omega)
 have g:∀o p q,b.fol o p q=false:=λo p q=>Rx.fol_lt (by omega)
 have f:∀o p q,b.has o p q=false:=λo p q=>Rx.has_lt (by omega)
 exact⟨by simp[Rx.sz,h],λo p=>by simp[Rx.fst,d],λo p=>by simp[Rx.lst,e],λo p q=>by simp[Rx.fol,Rx.lst,Rx.fst,d,e,g],λo p c=>by simp[Rx.has,f]⟩
theorem PH {es:List Rx} (hw:Wf T N) (c:YE T N lo ks es N) (hf:YE.FineL T ks es) (aa:ks≠[]):TD (Yx T N 2 ks (λ_=>false)) (N+1) lo N (V8 es):=by
 obtain⟨I,l2,O,_⟩:=c.le;have F:=c.nodup;have x:Vw (Yx T N 2 ks (λ_=>false)) lo N (V8 es):=by
  intro T' N' nl bg bh f M y;obtain⟨k1,z,_⟩:=f.k N (Zg _);rw[YQ]at k1 z;simp only at k1 z;have C:=c.cs (T':=T') (N':=N') (λi D=>by
   obtain⟨n,r,P⟩:=f.k i (by omega);obtain⟨A,L,Q⟩:=XE (T:=T) (kind:=2) (kids:=ks) (inn:=λ_=>false) D;exact⟨n.trans A,r.trans L,P.trans Q⟩) (λi h1 h2 h3=>by
   obtain⟨n,r⟩:=f.u i h1 h2;rw[Xe h2 h3]at n r;exact⟨n,r⟩) (by omega) y
  obtain⟨W,X,Y,Z,r5⟩:=CS.choice y k1 C (λk v=>by
   obtain⟨j,V,rfl⟩:=List.mem_iff_getElem.1 v;have E:=O _ v;obtain⟨n,r⟩:=f.u _ E.1 E.2;obtain⟨A,L⟩:=Nq (T:=T) (kind:=2) (inn:=λ_=>false) F (Zd V) E.2;exact⟨by omega,n.trans A⟩) aa
  have R:YG T' (N+1)=YG T' N:=by simp[YG,k1]
  refine⟨by rw[R];exact W,by rw[y.nl2 N M k1,z];exact X.symm,λm w=>by rw[y.bg2 N m M (Or.inl k1),z];exact Y m w,λm q h1 h2 h3 o=>?_,λm b h1 h2 h3 o=>?_⟩
  ·have w:m<N:=by
    rcases ZD m N with h|h
    ·exact h
    have:m=N:=by omega
    rw[this,k1]at h3;cases h3
   exact Z m q h1 w h3 o
  have w:m<N:=by
   rcases ZD m N with h|h
   ·exact h
   have:m=N:=by omega
   rw[this,k1]at h3;cases h3
  exact r5 m b h1 w h3 o
 have B:YG (Yx T N 2 ks (λ_=>false)) (N+1)=YG (Yx T N 2 ks (λ_=>false)) lo+(V8 es).sz:=by
  rw[show YG (Yx T N 2 ks (λ_=>false)) (N+1)=YG (Yx T N 2 ks (λ_=>false)) N by simp[YG,YQ],VO (Zg _),VO I,Ej];exact c.cl
 refine⟨⟨by omega,I,B,x,?_⟩,λh=>by rw[YQ]at h;cases h⟩;by_cases h1:ks.length=1
 ·obtain⟨k,rfl⟩:=List.length_eq_one_iff.1 h1;obtain⟨e,rfl,rfl,g⟩:=c.one
  ·have f:Ia T (Yx T (k+1) 2 [k] (λ_=>false)) lo k:=⟨λi D=>XE (by omega),λi a b=>by rw[Xe (by omega) (by simp;omega)];exact⟨rfl,rfl⟩⟩;obtain⟨H,b,e',u1,u2,u3,u4,u5,u6,u7,u8⟩:=(g.ext hw f (by omega:k+1<=k+1+1)).un;refine⟨H,b,e',Rr.one (c:=k) (by rw[YQ];simp) (by rw[YQ]) u1,u2,by omega,u4,?_,u6,u7,u8⟩;rw[u5];simp[YG,YQ]
 by_cases h2:∃c d,ks=[c,d]/\(T d).kind=1/\(T d).kids=[]
 ·obtain⟨p,k,G,s,t⟩:=h2;subst G;obtain⟨e0,e,rfl,rfl,g1,g⟩:=c.two
  ··
    obtain⟨s1,s2⟩:=hf 1 k e rfl rfl s t;have U:=g.ge;have f:Ia T (Yx T (k+1) 2 [p,k] (λ_=>false)) lo p:=⟨λi D=>XE (by omega),λi a b=>by rw[Xe (by omega) (by simp;omega)];exact⟨rfl,rfl⟩⟩;obtain⟨H,b,e',u1,u2,u3,u4,u5,u6,u7,u8⟩:=(g1.ext hw f (by omega:k+1<=k+1+1)).un;obtain⟨J,K,_⟩:=XE (T:=T) (kind:=2) (kids:=[p,k]) (inn:=λ_=>false) (show k<k+1 by omega);refine⟨H,true,e',Rr.may (c:=p) (d:=k) (by rw[YQ]) (by rw[YQ]) (by rw[J];exact s) (by rw[K];exact t) u1,u2,by omega,u4,?_,?_,(λh=>by cases h),λ_=>?_⟩
    ·-- no letter stands behind the first kid
     rw[u5];have l:YG (Yx T (k+1) 2 [p,k] (λ_=>false)) (k+1+1)=YG (Yx T (k+1) 2 [p,k] (λ_=>false)) (k+1):=by
      rw[YG,YQ];rfl
     rw[l,VO (by omega),VO (by omega)];have:=g.cl;omega
    ·exact u6.trans (Ek s1)
    show(Rx.alt e0 e).nul=true;simp[Rx.nul,s2]
 exact⟨N,false,_,Rr.stop (by rw[YQ];simp) (by rw[YQ];exact h1) (λa d h3 _ o=>h2 (by
  rw[YQ]at h3;have S:=O d (by rw[show ks=[a,d] from h3];simp);obtain⟨J,K,_⟩:=XE (T:=T) (kind:=2) (kids:=ks) (inn:=λ_=>false) S.2;exact⟨a,d,h3,by rw[<-J];exact o.1,by rw[<-K];exact o.2⟩)),I,Zg _,x,rfl,Wg.of (XZ.refl _),λ_=>rfl,λh=>by cases h⟩
theorem Rr.last {y:Nat}{b:Bool} (h:Rr T k y b):Rr T y y false:=by
 induction h with
 |stop h1 h2 h3=>exact Rr.stop h1 h2 h3
 |star h1 h2 h ih=>exact ih
 |one h1 h2 h ih=>exact ih
 |may h1 h2 h3 h4 h ih=>exact ih
theorem GD (hw:Wf T (k+1)) (g:Good T (k+1) lo k e) (st:Bool):∃k' b,Rr T k k' b/\k'<=k/\lo<=k'/\TD (Yx T (k+1) (if st || b then 3 else 4) [k'] (λ_=>false)) (k+1+1) lo (k+1) (if st then .star e else .plus e):=by
 obtain⟨k',b,e',u1,u2,u3,u4,u5,u6,u7,u8⟩:=g.un;refine⟨k',b,u1,u3,u2,?_⟩;obtain⟨kd,z⟩:=nam ((if st || b then 3 else 4));rw[<-z];have d:kd=3\/kd=4:=by rw[z];split<;>simp
 obtain⟨E,r⟩:=nam ((if st then Rx.star e else .plus e));rw[<-r];have w:∀o p,E.fst o p=e.fst o p:=λo p=>by rw[r];split<;>rfl
 have t:∀o p,E.lst o p=e.lst o p:=λo p=>by rw[r];split<;>rfl
 have D:∀o p q,E.fol o p q=(e.fol o p q || (e.lst o p&&e.fst o q)):=λo p q=>by rw[r];split<;>rfl
 have C:∀o p c,E.has o p c=e.has o p c:=λo p c=>by rw[r];split<;>rfl
 have y:E.sz=e.sz:=by rw[r];split<;>rfl
 have v:(kd=3->E.nul=true)/\(kd=4->e'.nul=E.nul):=by
  rw[r,z];cases st
  ·cases b
   ·exact⟨λh=>by simp at h,λ_=>u7 rfl⟩
   exact⟨λ_=>u8 rfl,λh=>by simp at h⟩
  exact⟨λ_=>rfl,λh=>by simp at h⟩
 have H:Ia T (Yx T (k+1) kd [k'] (λ_=>false)) lo k':=⟨λi V=>XE (by omega),λi a b=>by rw[Xe (by omega) (by simp;omega)];exact⟨rfl,rfl⟩⟩;have hz:YG (Yx T (k+1) kd [k'] (λ_=>false)) (k+1+1)=YG (Yx T (k+1) kd [k'] (λ_=>false)) (k+1):=by
  rw[YG,YQ];rcases d with h|h<;>simp[h]
 have R:Vw (Yx T (k+1) kd [k'] (λ_=>false)) lo (k+1) E:=by
  intro T' N' nl bg bh K M B;obtain⟨k1,L,_⟩:=K.k (k+1) (Zg _);rw[YQ]at k1 L;simp only at k1 L;have A:=(u4.ext H) T' N' nl bg bh (K.mono (Zg _) (by omega)) (by omega) B;have F:∀n,n<=k+1->YG T' n=YG T n:=λn hn=>Sn n (λi V=>by rw[(K.k i (by omega)).1];exact(XE (by omega)).1)
  have W:YG T' (k+1+1)=YG T' (k+1):=by
   rw[YG,k1];rcases d with h|h<;>simp[h]
  have O:YG T' (k'+1)=YG T' (k+1):=by rw[F _ (by omega),F _ (by omega)];exact u5
  have S:(T' k').up=((k+1:Nat):Int):=by
   rw[(K.u k' u2 (by omega)).1];exact(Nq (T:=T) (kind:=kd) (inn:=λ_=>false) (j:=0) (by simp) rfl (by omega)).1
  have N:∀q,bh k' q=(q.any (λm=>bg k' m) || bh (k+1) q):=λq=>B.bh3 k' (k+1) q (by omega) S (by rw[k1];exact d)
  have G:∀m,m<=k+1->(T' m).kind=0->m<=k':=λm h1 h2=>by
   rcases ZD k' m with h|h
   ·exfalso;by_cases e:m=k+1
    ·rw[e,k1]at h2;omega
    have Y:=Rz h2 (show m<k+1 by omega);have Z:=VF T' (show k'+1<=m from h);omega
   exact h
  refine⟨by rw[W,<-O,A.c,y,u6.s],?_,λm X=>?_,λm q h1 h2 h3 I=>?_,λm b h1 h2 h3 I=>?_⟩
  ·rcases d with h|h
   ·rw[B.nl3 _ M (by rw[k1];exact h),v.1 h]
   rw[B.nl1 _ M (Or.inr (by rw[k1];exact h)),L];simp only[List.all_cons,List.all_nil,Bool.and_true];rw[A.e0];exact v.2 h
  ·rw[B.bg2 _ m M (Or.inr (by rw[k1];exact d)),L];simp only[List.any_cons,List.any_nil,Bool.or_false];rw[A.f m X,u6.f,w]
  ·rw[A.b m q h1 (G m h2 h3) h3 I,N];rcases q with _|x
   ·simp only[Option.any_none,Bool.false_or,t,u6.l]
   simp only[Option.any_some,t,D,A.f x (I x rfl)];rw[<-u6.o,u6.l];cases e'.fol (YG T' lo) (YG T' m) (YG T' x)<;>cases e.lst (YG T' lo) (YG T' m)<;>cases e'.fst (YG T' lo) (YG T' x)<;>simp
  rw[A.h m b h1 (G m h2 h3) h3 I,C,u6.h]
 have Q:Wg e' E:=⟨by rw[y];exact u6.s,λo p=>by rw[w];exact u6.f o p,λo p=>by rw[t];exact u6.l o p,λo p q=>by
  rw[u6.o,D,t,w];cases e.fol o p q<;>cases e.lst o p<;>cases e.fst o q<;>rfl,λo p c=>by rw[C];exact u6.h o p c⟩
 have P:YG (Yx T (k+1) kd [k'] (λ_=>false)) (k'+1)=YG (Yx T (k+1) kd [k'] (λ_=>false)) (k+1+1):=by
  rw[hz,VO (by omega),VO (by omega)];exact u5
 refine⟨⟨by omega,by have:=g.ge;omega,?_,R,k',kd==3,e',?_,u2,by omega,u4.ext H,P,Q,λJ=>?_,λJ=>?_⟩,λh=>?_⟩
 ·rw[hz,VO (by omega),VO (by have:=g.ge;omega),g.cl,y]
 ·have U:Rr (Yx T (k+1) kd [k'] (λ_=>false)) k' k' false:=u1.last.ext hw (by omega) (λi V=>⟨(XE (by omega)).1,(XE (by omega)).2.1⟩);rcases d with h|h
  ·subst h;exact Rr.star (by rw[YQ]) (by rw[YQ]) U
  subst h;exact Rr.one (b:=false) (by rw[YQ];simp) (by rw[YQ]) U
 ·rcases d with h|h
  ·rw[h]at J;cases J
  exact v.2 h
 ·exact v.1 (by simpa using J)
 rw[YQ]at h;simp only at h;omega
def It (T:Nat->Nd):Nat->Nat->Bool
 |0,_=>false
 |f+1,n=>if (T n).kind=0 then false else if (T n).kind=3 then true else if (T n).kind=2 then (T n).kids.any (It T f) else (T n).kids.all (It T f)
theorem Sk {l:List Nat}{g:N_} (h:∀k∈l,f k=g k):l.any f=l.any g:=by
 induction l with
 |nil=>rfl
 |cons x l ih=>rw[List.any_cons,List.any_cons,h x (by simp),ih (λk a=>h k (by simp[a]))]
theorem Mb {l:List Nat}{g:N_} (h:∀k∈l,f k=g k):l.all f=l.all g:=by
 induction l with
 |nil=>rfl
 |cons x l ih=>rw[List.all_cons,List.all_cons,h x (by simp),ih (λk a=>h k (by simp[a]))]
theorem On {l:List Nat}{b c e:N_} (h:∀k∈l,b k=c k/\e k=f k):Vt b e l=Vt c f l:=by
 induction l with
 |nil=>rfl
 |cons x l ih=>rw[Vt,Vt,(h x (by simp)).1,(h x (by simp)).2,ih (λk a=>h k (by simp[a]))]
theorem CM (y:Wf T N):∀(n f g:Nat),n<N->n<f->n<g->It T f n=It T g n:=by
 intro n
 induction n using Nat.strongRecOn with
 |_ n ih=>
  intro f g b c d;obtain⟨f,rfl⟩:∃q,f=q+1:=⟨f-1,by omega⟩;obtain⟨g,rfl⟩:∃q,g=q+1:=⟨g-1,by omega⟩;have a:∀k∈(T n).kids,It T f k=It T g k:=λk a=>by
   have:=y n b k a;exact ih k this f g (by omega) (by omega) (by omega)
  simp only[It];rw[Sk a,Mb a]
def FM (T:Nat->Nd):Nat->Nat->Nat->Bool
 |0,_,_=>false
 |f+1,n,m=>if (T n).kind=0 then n==m else if (T n).kind=1 then Vt (λk=>FM T f k m) (λk=>It T (k+1) k) (T n).kids else (T n).kids.any (λk=>FM T f k m)
theorem CF (y:Wf T N) (m:Nat):∀(n f g:Nat),n<N->n<f->n<g->FM T f n m=FM T g n m:=by
 intro n
 induction n using Nat.strongRecOn with
 |_ n ih=>
  intro f g c d e;obtain⟨f,rfl⟩:∃q,f=q+1:=⟨f-1,by omega⟩;obtain⟨g,rfl⟩:∃q,g=q+1:=⟨g-1,by omega⟩;have a:∀k∈(T n).kids,FM T f k m=FM T g k m:=λk a=>by
   have:=y n c k a;exact ih k this f g (by omega) (by omega) (by omega)
  simp only[FM];rw[Sk a,On (λk b=>⟨a k b,rfl⟩)]
def Wp (T:Nat->Nd) (n:Nat):Bool:=It T (n+1) n
def UR (T:Nat->Nd) (n m:Nat):Bool:=FM T (n+1) n m
def Ih (T:Nat->Nd):Nat->Nat->Option Nat->Bool
 |0,_,_=>false
 |f+1,n,q=>
  if (T n).up<0 then q==none
  else if (T (T n).up.toNat).kind=1 then (q.any (λm=>Vt (λk=>UR T k m) (Wp T) ((T (T n).up.toNat).kids.drop ((T n).at_+1))) || (((T (T n).up.toNat).kids.drop ((T n).at_+1)).all (Wp T)&&Ih T f (T n).up.toNat q))
  else if (T (T n).up.toNat).kind=3\/(T (T n).up.toNat).kind=4 then (q.any (λm=>UR T n m) || Ih T f (T n).up.toNat q)
  else Ih T f (T n).up.toNat q
theorem En (y:If T N) (q:Option Nat):∀(d n f g:Nat),N-n<=d->n<N->N<f+n+1->N<g+n+1->Ih T f n q=Ih T g n q:=by
 intro d
 induction d with
 |zero=>intro n f g h1 h2;omega
 |succ d ih=>
  intro n f g h1 a b c;obtain⟨f,rfl⟩:∃q,f=q+1:=⟨f-1,by omega⟩;obtain⟨g,rfl⟩:∃q,g=q+1:=⟨g-1,by omega⟩;simp only[Ih];by_cases h0:(T n).up<0
  ·rw[if_pos h0,if_pos h0]
  rw[if_neg h0,if_neg h0];have h:=y n a;have e:Ih T f (T n).up.toNat q=Ih T g (T n).up.toNat q:=ih _ f g (by omega) (by omega) (by omega) (by omega);rw[e]
def MG (T:Nat->Nd) (N n:Nat) (q:Option Nat):Bool:=Ih T (N-n) n q
theorem Vo (y:Wf T N) (z:If T N):BV T N (Wp T) (UR T) (MG T N):=by
 have kn:∀n,n<N->∀k∈(T n).kids,It T n k=Wp T k:=λn a k b=>by
  have:=y n a k b;exact CM y k n (k+1) (by omega) this (by omega)
 have d:∀m n,n<N->∀k∈(T n).kids,FM T n k m=UR T k m:=λm n a k b=>by
  have:=y n a k b;exact CF y m k n (k+1) (by omega) this (by omega)
 have c:∀n u q,n<N->(T n).up=((u:Nat):Int)->n<u/\u<N/\MG T N n q=(if (T u).kind=1 then (q.any (λm=>Vt (λk=>UR T k m) (Wp T) ((T u).kids.drop ((T n).at_+1))) || (((T u).kids.drop ((T n).at_+1)).all (Wp T)&&MG T N u q))
  else if (T u).kind=3\/(T u).kind=4 then (q.any (λm=>UR T n m) || MG T N u q) else MG T N u q):=λn u q a f=>by
  have g:=z n a;have h1:n<u/\u<N:=by omega
  refine⟨h1.1,h1.2,?_⟩;have e:Ih T (N-n-1) u q=MG T N u q:=En z q N u _ _ (by omega) h1.2 (by omega) (by omega);unfold MG;rw[show N-n=(N-n-1)+1 by omega];simp only[Ih];rw[g_,f,ZE,e];rfl
 refine⟨λn _ h=>?_,λn a h=>?_,λn a h=>?_,λn _ h=>?_,λn m _ h=>?_,λn m a h=>?_,λn m a h=>?_,λn q a h=>?_,λn u q a h1 h2=>?_,λn u q a h1 h2=>?_,λn u q a h1 h2=>?_⟩
 ·simp[Wp,It,h]
 ·unfold Wp;rw[It,g_,g_,g_];exact Mb (kn n a)
 ·unfold Wp;rw[It,g_,g_,if_pos h];exact Sk (kn n a)
 ·simp[Wp,It,h]
 ·simp[UR,FM,h]
 ·unfold UR;rw[FM,g_,if_pos h];exact On (λk b=>⟨d m n a k b,rfl⟩)
 ·unfold UR;rw[FM,g_,g_];exact Sk (d m n a)
 ·unfold MG;rw[show N-n=(N-n-1)+1 by omega];simp only[Ih];rw[if_pos h]
 ·obtain⟨_,_,e⟩:=c n u q a h1;rw[e,if_pos h2]
 ·obtain⟨_,_,e⟩:=c n u q a h1;rw[e,g_,g_]
 obtain⟨_,_,e⟩:=c n u q a h1;rw[e,g_,if_pos h2]
theorem FF (z:Wf T (k+1)) (y:If T (k+1)) (g:Good T (k+1) 0 k e):
  YG T (k+1)=e.sz/\Wp T k=e.nul/\(∀m,(T m).kind=0->UR T k m=e.fst 0 (YG T m)) /\
  (∀m q,m<=k->(T m).kind=0->(∀x,q=some x->(T x).kind=0)->MG T (k+1) m q=(q.any (λx=>e.fol 0 (YG T m) (YG T x)) || (e.lst 0 (YG T m)&&MG T (k+1) k q))) /\
  (∀m b,m<=k->(T m).kind=0->b<256->(T m).inn b=e.has 0 (YG T m) b):=by
 have a:=g.st T (k+1) (Wp T) (UR T) (MG T (k+1)) ⟨λi _=>⟨rfl,rfl,rfl⟩,λi _ _=>⟨rfl,rfl⟩⟩ (by omega) (Vo z y);refine⟨?_,a.e0,a.f,λm q h=>a.b m q (Nat.zero_le _) h,λm b h=>a.h m b (Nat.zero_le _) h⟩;have:=a.c;simpa[YG]using this
structure JE (T:Nat->Nd) (N:Nat):Prop where
 w:Wf T N
 u:If T N
 k:∀i,i<N->(T i).kind<=4/\(T i).kids.length<=1000
 a:∀i,i<N->(T i).at_<=1000
theorem JE.zero (T:Nat->Nd):JE T 0:=⟨λi a=>by omega,λi a=>by omega,λi a=>by omega,λi a=>by omega⟩
theorem JE.add (h:JE T N) (z:∀k∈kids,k<N) (y:kind<=4) (H:kids.length<=1000):JE (Yx T N kind kids inn) (N+1):=
 ⟨h.w.add z,h.u.add,λi c=>by
  by_cases e:i=N
  ·subst e;rw[YQ];exact⟨y,H⟩
  ·obtain⟨a,b,_⟩:=XE (T:=T) (kind:=kind) (kids:=kids) (inn:=inn) (show i<N by omega);rw[a,b];exact h.k i (by omega),λi c=>by
  unfold Yx;by_cases e:i=N
  ·rw[if_pos e];exact Nat.zero_le _
  rw[if_neg e];split
  ·show kids.idxOf i<=1000;have:=List.idxOf_le_length (l:=kids) (a:=i);omega
  exact h.a i (by omega)⟩
theorem YE.more {es:List Rx} (z:Wf T N) (c:YE T N lo ks es N) (y:∀i,i<N->T' i=T i) (g:TD T' (n+1) N n e):YE T' (n+1) lo (ks++[n]) (es++[e]) (n+1):=
 YE.snoc (c.ext z (λi a=>by rw[y i a];exact⟨rfl,rfl,rfl⟩) (λi _ a _=>by rw[y i a];exact⟨rfl,rfl⟩) (by have:=g.ge;omega)) g.toGood
theorem NJ {es:List Rx} (z:∀k∈ks,k<N) (H:ks.length=es.length) (h:YE.FineL T ks es) (y:∀i,i<N->T' i=T i) (g:TD T' (n+1) N n e):YE.FineL T' (ks++[n]) (es++[e]):=λj k x h1 h2 h3 a=>by
 by_cases d:j<ks.length
 ·rw[Zv d]at h1;rw[Zv (by omega)]at h2;rw[y k (z k (List.mem_of_getElem? h1))]at h3 a;exact h j k x h1 h2 h3 a
 have c:=(Zi.1 h1).1;simp only[Zl,List.length_singleton]at c;have b:j=ks.length:=by omega
 subst b;rw[ZG (by omega),Nat.sub_self]at h1;rw[H,ZG (by omega),Nat.sub_self]at h2;simp only[List.getElem?_cons_zero,Zp]at h1 h2;subst h1;subst h2;exact g.br h3 a
theorem JX (T:Nat->Nd) (N:Nat) (y:Wf T N):TD (Yx T N 1 [] (λ_=>false)) (N+1) N N .eps:=Oq y (YE.nil N)
variable {e0:Rx}
theorem Fd {a:Nat} (y:Wf T (a+1)) (g:TD T (a+1) lo a e0):TD (Yx (Yx T (a+1) 1 [] (λ_=>false)) (a+1+1) 2 [a,a+1] (λ_=>false)) (a+1+1+1) lo (a+1+1) (.opt e0):=by
 have b:Wf (Yx T (a+1) 1 [] (λ_=>false)) (a+1+1):=y.add (by simp);have c:=YE.snoc (YE.nil lo) g.toGood;have g2:=JX T (a+1) y;have d:∀i,i<a+1->Yx T (a+1) 1 [] (λ_=>false) i=T i:=λi l=>Xe l (by simp)
 have c2:=c.more y d g2;have e:YE.FineL T [a] [e0]:=λj k x h1 h2 h3 h=>by
  rcases j with _|j
  ·simp only[List.getElem?_cons_zero,Zp]at h1 h2;subst h1;subst h2;exact g.br h3 h
  simp at h1
 have f:YE.FineL (Yx T (a+1) 1 [] (λ_=>false)) [a,a+1] [e0,.eps]:=NJ (N:=a+1) (by simp) rfl e d g2;exact(PH b c2 f (by simp)).eq (XZ.opt_alt e0)
def WK (L P:Nat):Nat:=3*(L*max P 1)
theorem Lw {L:Nat} (h:1<=L):3<=WK L P:=by
 unfold WK;have h1:1<=max P 1:=by omega
 have:1*1<=L*max P 1:=Nat.mul_le_mul h h1;omega
theorem Pj {L:Nat} (h:1<=t):WK L P+2<=WK (L+t) P:=by
 unfold WK;have h1:1<=max P 1:=by omega
 have h2:=Nat.mul_le_mul h h1;rw[Nat.add_mul];omega
theorem E6 {L Q:Nat} (h:P<=Q):WK L P<=WK L Q:=by
 unfold WK;have:L*max P 1<=L*max Q 1:=Nat.mul_le_mul_left _ (by omega);omega
theorem QX (L K P:Nat):WK (L+K) P=WK L P+WK K P:=by
 unfold WK;rw[Nat.add_mul];omega
theorem GG {L:Nat} (H:3<=t) (y:1<=P) (z:1<=n):n*(WK L P+2)+1<=WK (L+t) (n*P):=by
 unfold WK;have h0:=Nat.mul_le_mul z y;have a:max P 1=P:=by omega
 have e2:max (n*P) 1=n*P:=by omega
 rw[a,e2];have h3:=Nat.mul_le_mul_left n y;have c:3*(n*P)<=t*(n*P):=ZQ _ H;have b:n*(3*(L*P)+2)=3*(L*(n*P))+2*n:=by
  rw[Nat.mul_add];have:n*(3*(L*P))=3*(L*(n*P)):=by
   rw[Nat.mul_left_comm n 3,Nat.mul_left_comm n L]
  omega
 rw[b,Nat.add_mul];omega
theorem C6 {l:List Rx} (h:e∈l):e.sz<=(l.map Rx.sz).sum:=by
 induction l with
 |nil=>simp at h
 |cons x l ih=>
  simp only[List.map_cons,List.sum_cons];rcases ZR.1 h with rfl|h
  ·omega
  have:=ih h;omega
open Go.RowKit
def Y7 (s:ByteArray) (i:Int):Int:=if 0<=i/\i<s.size then ((s.data.toList.getD i.toNat 0).toNat:Int) else -1
theorem Ig {i:Int} (h:¬(0<=i/\i<s.size)):Y7 s i=-1:=by unfold Y7;rw[if_neg h]
theorem Lf {i:Int} (h:i.toNat<s.size) (h0:0<=i):Y7 s i=(s[i.toNat].toNat:Int):=by
 unfold Y7;rw[if_pos ⟨h0,by omega⟩,NO s _ h]
theorem Nw (s:ByteArray) (i:Int):-1<=Y7 s i/\Y7 s i<256:=by
 unfold Y7;split
 ·have:=(s.data.toList.getD i.toNat 0).toNat_lt;omega
 omega
namespace Pg
structure R where
 v:Int
 n:Int
 ok:Bool
def isMark (b:Int):Bool:=b==92 || b==46 || b==91 || b==93 || b==40 || b==41 || b==123 || b==125 || b==124 || b==42 || b==43 || b==63 || b==94 || b==45
def isInner (b:Int):Bool:=!(b==-1 || b==92 || b==91 || b==93 || b==94 || b==45)
def digitValue (b:Int):Int:=if 48<=b/\b<=57 then b-48 else -1
def hexValue (b:Int):Int:=if 97<=b/\b<=102 then b-97+10 else digitValue b
def kindOf (b:Int):Int:=
 if b=-1\/b=93\/b=125 then 0 else if b=40 then 2 else if b=41 then 3 else if b=124 then 4
 else if b=42 then 5 else if b=43 then 6 else if b=63 then 7 else if b=123 then 8 else 1
def isSuffix (k:Int):Bool:=k==5 || k==6 || k==7 || k==8
def opn (kd:Int):Int:=if kd=2 then 1 else if kd=3 then -1 else 0
theorem opn_bd (kd:Int):-1<=opn kd/\opn kd<=1:=by
 unfold opn
 repeat' split
 all_goals omega
def endsPiece (k:Int):Bool:=k==1 || k==3 || isSuffix k
def canStand (k before op:Int):Bool:=if k=0 then false else if k=3 then decide (0<op) else if isSuffix k then endsPiece before else true
def capped (n:Int):Int:=if 96<n then 97 else n
def readHex (g:Int->Int) (i:Int):R:=
 if hexValue (g i)<0 then ⟨0,i,false⟩
 else if hexValue (g (i+1))<0 then ⟨0,i+1,false⟩
 else ⟨hexValue (g i)*16+hexValue (g (i+1)),i+2,true⟩
def readEscape (g:Int->Int) (i:Int):R:=
 if g (i+1)=110 then ⟨10,i+2,true⟩ else if g (i+1)=116 then ⟨9,i+2,true⟩
 else if g (i+1)=120 then readHex g (i+2)
 else if isMark (g (i+1)) then ⟨g (i+1),i+2,true⟩ else ⟨0,i+1,false⟩
def readOne (g:Int->Int) (i:Int):R:=
 if g i=92 then readEscape g i else if isInner (g i) then ⟨g i,i+1,true⟩ else ⟨0,i,false⟩
structure I where
 lo:Int
 hi:Int
 n:Int
 ok:Bool
def readItem (g:Int->Int) (i:Int):I:=
 if (readOne g i).ok then
  (if g (readOne g i).n=45 then ⟨(readOne g i).v,(readOne g ((readOne g i).n+1)).v,(readOne g ((readOne g i).n+1)).n,(readOne g ((readOne g i).n+1)).ok⟩
  else ⟨(readOne g i).v,(readOne g i).v,(readOne g i).n,true⟩)
 else ⟨0,0,(readOne g i).n,false⟩
def readMost (g:Int->Int) (i least:Int):R:=
 if g i=125 then ⟨least,i+1,true⟩
 else if g i=44 then
  (if digitValue (g (i+1))<0 then ⟨0,i+1,false⟩
  else if g (i+2)=125 then ⟨digitValue (g (i+1)),i+3,true⟩ else ⟨0,i+2,false⟩)
 else ⟨0,i,false⟩
theorem hexValue_bd (b:Int):-1<=hexValue b/\hexValue b<16:=by
 unfold hexValue digitValue;split
 ·omega
 split<;>omega
theorem digitValue_bd (b:Int):-1<=digitValue b/\digitValue b<10:=by
 unfold digitValue;split<;>omega
theorem readHex_bd (g:Int->Int) (i:Int):0<=(readHex g i).v/\(readHex g i).v<256/\i<=(readHex g i).n/\(readHex g i).n<=i+2:=by
 have h1:=hexValue_bd (g i);have h2:=hexValue_bd (g (i+1));unfold readHex;split
 ·simp;omega
 split
 ·simp;omega
 simp;omega
theorem readEscape_bd (g:Int->Int) (i:Int) (y:∀j,-1<=g j/\g j<256):0<=(readEscape g i).v/\(readEscape g i).v<256/\i<(readEscape g i).n/\(readEscape g i).n<=i+4:=by
 have h:=y (i+1);have h2:=readHex_bd g (i+2);unfold readEscape;split
 ·simp;omega
 split
 ·simp;omega
 split
 ·omega
 split
 ·rename_i a;have:0<=g (i+1):=by
   simp only[isMark,Bool.or_eq_true,beq_iff_eq]at a;omega
  simp;omega
 simp;omega
theorem readOne_bd (g:Int->Int) (i:Int) (y:∀j,-1<=g j/\g j<256):0<=(readOne g i).v/\(readOne g i).v<256/\i<=(readOne g i).n/\(readOne g i).n<=i+4/\((readOne g i).ok=true->i<(readOne g i).n):=by
 have h:=y i;have h2:=readEscape_bd g i y;unfold readOne;split
 ·omega
 split
 ·rename_i a;have:g i≠-1:=by
   intro e;rw[e]at a;simp[isInner]at a
  simp;omega
 simp;omega
theorem readItem_bd (g:Int->Int) (i:Int) (y:∀j,-1<=g j/\g j<256):i<=(readItem g i).n/\(readItem g i).n<=i+9/\((readItem g i).ok=true->i<(readItem g i).n/\0<=(readItem g i).lo/\(readItem g i).lo<256/\0<=(readItem g i).hi/\(readItem g i).hi<256):=by
 have h:=readOne_bd g i y;have h2:=readOne_bd g ((readOne g i).n+1) y;unfold readItem;split
 ·rename_i a;have h3:=h.2.2.2.2 a;split
  ·simp;omega
  simp;omega
 simp;omega
structure S where
 n:Int
 ok:Bool
 f:Nat->Bool
 fa:Int
def withF (f:Nat->Bool) (a b:Int):Nat->Bool:=λk=>f k || (decide (a<=(k:Int))&&decide ((k:Int)<=b))
def setLoop (g:Int->Int) (len first:Int):Nat->Int->Int->(Nat->Bool)->S
 |0,e,fa,f=>⟨e,false,f,fa⟩
 |u+1,e,fa,f=>
  if e<len then
   (if g e=93/\first<e then ⟨e+1,true,f,fa⟩
   else if (readItem g e).ok then setLoop g len first u (readItem g e).n (if (readItem g e).hi<(readItem g e).lo/\fa=-1 then e else fa) (withF f (readItem g e).lo (readItem g e).hi)
   else ⟨(readItem g e).n,false,f,fa⟩)
  else ⟨len,false,f,fa⟩
def readSet (g:Int->Int) (len i:Int):S:=
 if g (i+1)=94 then (let r:=setLoop g len (i+2) (len.toNat+1) (i+2) (-1) (λ_=>false);⟨r.n,r.ok,λk=>!r.f k,r.fa⟩)
 else setLoop g len (i+1) (len.toNat+1) (i+1) (-1) (λ_=>false)
end Pg
end
section
open Bm
structure No (E F G:Nat->Nat->Bool) (K:Nat):Prop where
 e:Eqv E 256
 k:K=cnt E 256
 f:Eqv F K
 g:Eqv G 256
 x:∀a b,a<256->b<256->G a b=F (idx E a) (idx E b)
theorem NK {α β:Type}{l:List α}{f g:α->List β} (h:∀a∈l,f a=g a):l.flatMap f=l.flatMap g:=by
 induction l with
 |nil=>rfl
 |cons a l ih=>rw[List.flatMap_cons,List.flatMap_cons,h a (by simp),ih (λb c=>h b (by simp[c]))]
variable {K:Nat}{E G:Nat->N_}
theorem No.kk {F:Nat->N_} (h:No E F G K) {b:Nat} (y:b<256):idx E b<K:=by
 rw[h.k];exact idx_lt h.e y
theorem No.rep {F:Nat->N_} (h:No E F G K) {k:Nat} (y:k<K):∃r,(reps E 256)[k]?=some r/\r<256/\least E r=r/\cnt E r=k/\idx E r=k:=by
 rw[h.k]at y;refine⟨_,Zd y,?_⟩;obtain⟨h1,h2,h3⟩:=reps_mem (Zd y);exact⟨h1,h2,h3,by rw[idx_rep h2];exact h3⟩
theorem No.lst {F:Nat->N_} (h:No E F G K) {b:Nat} (y:b<256):(reps E 256)[least F (idx E b)]?=some (least G b)/\least E (least G b)=least G b/\cnt E (least G b)=least F (idx E b):=by
 have j:=h.kk y;have n:=least_le F (idx E b);obtain⟨r,h1,h2,h3,d,i⟩:=h.rep (k:=least F (idx E b)) (by omega);have l:least G b=r:=by
  refine least_eq ?_ (λc m=>?_) (least_like h.g y)
  ·rw[h.x r b h2 y,i];exact least_like h.f j
  rw[h.x c b (by omega) y];refine least_min ?_;rw[<-d];have a:c<256:=by omega
  exact cnt_lt (least_idem h.e a) (by have:=least_le E c;omega)
 rw[l];exact⟨h1,h3,d⟩
theorem No.reps_to {F:Nat->N_} (h:No E F G K):∀n,n<=256->reps G n=(reps F (cnt E n)).map λk=>(reps E 256).getD k 0
 |0,_=>rfl
 |n+1,hn=>by
  have ih:=h.reps_to n (by omega);obtain⟨h1,h2,h3⟩:=h.lst (b:=n) (by omega);rw[reps_succ,ih];by_cases a:least E n=n
  ·have c:=idx_rep a;rw[cnt_succ,if_pos a,reps_succ F,List.map_append];congr 1;have f:(reps E 256).getD (cnt E n) 0=n:=by rw[Zf,reps_get E 256 n (by omega) a];rfl
   by_cases d:least G n=n
   ·rw[d]at h3;rw[if_pos d,if_pos (by rw[c]at h3;exact h3.symm)];show [n]=[(reps E 256).getD (cnt E n) 0];rw[f]
   rw[if_neg d,if_neg (λe=>d ?_)]
   ·rfl
   rw[c,e]at h3;exact cnt_inj h2 a h3
  rw[cnt_succ,if_neg a,Nat.add_zero,if_neg (λe=>a (by rw[e]at h2;exact h2)),List.append_nil]
theorem No.ix {F:Nat->N_} (h:No E F G K) {b:Nat} (y:b<256):idx G b=idx F (idx E b):=by
 obtain⟨h1,h2,h3⟩:=h.lst y;have d:=least_le G b;unfold idx;unfold idx at h3;rw[<-h3];have c:=h.reps_to (least G b) (by omega);have a:=congrArg List.length c;rw[Zy]at a;exact a
end
end Go.Proofs.YtoaaklhpmhjhkaaGreat
