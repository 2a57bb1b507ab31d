import Derived.WalkKit
import Derived.Test.YtoaaklhpmhjhkaaGreatSk
set_option maxRecDepth 100000
set_option maxHeartbeats 4000000
set_option linter.all false
namespace Go.Proofs.YtoaaklhpmhjhkaaGreat
theorem q6v (s:ByteArray) (k:Nat) (h:k<s.size):s[k]=s.data.toList.getD k 0:=by
 have a:k<s.data.toList.length:=by simpa using h
 rw[List.getD_eq_getElem?_getD,List.getElem?_eq_getElem a];rfl
theorem q3w (s:ByteArray) (k:Nat) (h:k<s.size):s.data.toList.drop k=s[k]::s.data.toList.drop (k+1):=by
 rw[List.drop_eq_getElem_cons (by simpa using h)];rfl
theorem q0l {k:IntKind}{a b:Int} (h:a=b):Ending.returned (.int k a)=.returned (.int k b):=by rw[h]
theorem q0v {a b:Bool} (h:a=b):Ending.returned (.bool a)=.returned (.bool b):=by rw[h]
namespace Rf
def digit (c:Int):Bool:=decide (48<=c)&&decide (c<=57)
def hex (c:Int):Bool:=digit c || (decide (97<=c)&&decide (c<=102))
def has:List UInt8->Int->Bool
 |[],_=>false
 |x::r,c=>((x.toNat:Int)==c) || has r c
def number (c:Int):Int:=if digit c then c-48 else c-97+10
theorem number_lt (c:Int) (h:hex c=true):0<=number c/\number c<16:=by
 unfold number;cases hd:digit c
 ·have:97<=c/\c<=102:=by simpa[hex,hd]using h
  simp;omega
 have:48<=c/\c<=57:=by simpa[digit]using hd
 simp;omega
structure RS where
 ok:Bool
 m:Int
 bk:Int
 o:Int
def marks:List UInt8:=[92,46,91,93,40,41,123,125,124,42,43,63,94,45]
def notInner:List UInt8:=[91,93,94,45]
def to (m bk o:Int) (ok:Bool) (m':Int):RS:=⟨ok,if ok then m' else m,bk,o⟩
def inner (m bk o c m':Int):RS:=if c=92 then ⟨true,2,m',o⟩ else to m bk o (!has notInner c) m'
def outside (m bk o c:Int):RS:=
 if c=92 then ⟨true,2,1,o⟩
 else if c=91 then ⟨true,9,bk,o⟩
 else if c=40 then ⟨true,0,bk,o+1⟩
 else if c=41 then to m bk (o-1) (decide (1<=o)) 1
 else if c=124 then ⟨true,0,bk,o⟩
 else if c=42\/c=43\/c=63 then ⟨m==1,m,bk,o⟩
 else if c=123 then to m bk o (m==1) 5
 else if c=93\/c=125 then ⟨false,m,bk,o⟩
 else ⟨true,1,bk,o⟩
def rest (m bk o c:Int):RS:=
 if m=9 then (if c=94 then ⟨true,10,bk,o⟩ else inner m bk o c 11)
 else if m=10 then inner m bk o c 11
 else if m=11 then (if c=45 then ⟨true,12,bk,o⟩ else if c=93 then ⟨true,1,bk,o⟩ else inner m bk o c 11)
 else if m=12 then inner m bk o c 13
 else if m=13 then (if c=93 then ⟨true,1,bk,o⟩ else inner m bk o c 11)
 else outside m bk o c
def read (m bk o c:Int):RS:=
 if m=2 then (if c=120 then ⟨true,3,bk,o⟩ else to m bk o (c==110 || c==116 || has marks c) bk)
 else if m=3 then to m bk o (hex c) 4
 else if m=4 then to m bk o (hex c) bk
 else if m=5 then to m bk o (digit c) 6
 else if m=6 then (if c=44 then ⟨true,7,bk,o⟩ else to m bk o (c==125) 1)
 else if m=7 then to m bk o (digit c) 8
 else if m=8 then to m bk o (c==125) 1
 else rest m bk o c
def formFrom (m bk o:Int) (i:Nat):List UInt8->Int
 |[]=>if 0<o\/1<m then i else -1
 |c::r=>let x:=read m bk o c.toNat;if x.ok then formFrom x.m x.bk x.o (i+1) r else i
def form (l:List UInt8):Int:=formFrom 0 0 0 0 l
def deepFrom (m bk o:Int) (i:Nat):List UInt8->Int
 |[]=>-1
 |c::r=>let x:=read m bk o c.toNat;if 6<x.o then i else deepFrom x.m x.bk x.o (i+1) r
def deep (l:List UInt8):Int:=deepFrom 0 0 0 0 l
end Rf
open Go.RowKit
variable {fa fb : Int}{p r : List UInt8}{b f i j k n s : Nat}{inb inn : Nat → Bool}{E t : Nat → Nat → Bool}{toN : Nat → Nat → Nat}{c d : UInt8}
theorem q0m {s:ByteArray} (h:s.data.toList.drop k=c::r):∃hk:k<s.size,s[k]=c/\s.data.toList.drop (k+1)=r:=by
 have hk:k<s.size:=by
  rcases Nat.lt_or_ge k s.size with a|a
  ·exact a
  rw[List.drop_eq_nil_of_le (by simpa using a)]at h;cases h
 refine⟨hk,?_⟩;rw[q3w s k hk]at h;injection h with h1 h2;exact⟨h1,h2⟩
theorem q0J (h:c≠d):((c.toNat:Int)==(d.toNat:Int))=false:=by
 rw[beq_eq_false_iff_ne];intro a;exact h (UInt8.toNat_inj.1 (by omega))
theorem q4V (c:UInt8):(c.toNat:Int)<256:=by have:=c.toNat_lt;omega
theorem q4U (c:UInt8):wrap64 (c.toNat:Int)=c.toNat:=by
 have:=c.toNat_lt;unfold wrap64;omega
namespace Rf
def one:List UInt8->Option (Int × Nat)
 |[]=>none
 |c::r=>
  if c=92 then
   match r with
   |[]=>none
   |d::r'=>
    if d=110 then some (10,2) else if d=116 then some (9,2)
    else if d=120 then
     match r' with
     |x::y::_=>if hex x.toNat&&hex y.toNat then some (number x.toNat*16+number y.toNat,4) else none
     |_=>none
    else some (d.toNat,2)
  else some (c.toNat,1)
def items:Nat->List UInt8->Nat->Int->(Nat->Bool)->Option (Nat × Int × (Nat->Bool))
 |0,_,_,_,_=>none
 |f+1,l,i,falls,inn=>
  match l with
  |[]=>none
  |c::_=>
   if c=93 then some (i,falls,inn)
   else match one l with
    |none=>none
    |some (a,n)=>
     match l.drop n with
     |[]=>none
     |d::l'=>
      if d=45 then
       match one l' with
       |none=>none
       |some (b,n')=>items f (l'.drop n') (i+n+1+n') (if b<a/\falls<0 then i else falls) (λk=>inn k || (decide (a<=k)&&decide ((k:Int)<=b)))
      else items f (d::l') (i+n) falls (λk=>inn k || (decide (a<=k)&&decide ((k:Int)<=a)))
def set (l:List UInt8) (i:Nat):Option (Nat × Int × (Nat->Bool)):=
 match l with
 |[]=>none
 |c::r=>
  if c=94 then (items (r.length+1) r (i+2) (-1) (λ_=>false)).map λx=>(x.1+1,x.2.1,λk=>x.2.2 k != true)
  else (items (r.length+2) (c::r) (i+1) (-1) (λ_=>false)).map λx=>(x.1+1,x.2.1,λk=>x.2.2 k != false)
theorem one_bd {l:List UInt8}{v:Int} (h:one l=some (v,n)):0<=v/\v<256/\1<=n/\n<=4:=by
 unfold one at h;rcases l with _|⟨c,r⟩
 ·cases h
 simp only at h;split at h
 ·rcases r with _|⟨d,b⟩
  ·cases h
  simp only at h;split at h
  ·simp at h;omega
  split at h
  ·simp at h;omega
  split at h
  ·rcases b with _|⟨x,_|⟨y,e⟩⟩
   ·cases h
   ·cases h
   simp only at h;split at h
   ·rename_i a;rw[Bool.and_eq_true]at a;have f:=number_lt _ a.1;have g:=number_lt _ a.2;simp only[Option.some.injEq,Prod.mk.injEq]at h;omega
   cases h
  have:=q4V d;simp only[Option.some.injEq,Prod.mk.injEq]at h;omega
 have:=q4V c;simp only[Option.some.injEq,Prod.mk.injEq]at h;omega
def valueFrom (p:List UInt8):Nat->Nat->Option Int
 |0,_=>none
 |f+1,i=>
  match p.drop i with
  |[]=>some (-1)
  |c::r=>
   if c=92 then
    match one (c::r)with
    |none=>none
    |some (_,n)=>valueFrom p f (i+n)
   else if c=91 then
    match set r i with
    |none=>none
    |some (j,fa,_)=>if 0<=fa then some fa else valueFrom p f j
   else if c=123 then
    match r with
    |x::y::r'=>
     if y=44 then
      match r' with
      |z::_=>if z.toNat<x.toNat then some i else valueFrom p f (i+1)
      |[]=>none
     else valueFrom p f (i+1)
    |_=>none
   else valueFrom p f (i+1)
def cntTo (f:Nat->Bool):Nat->Nat
 |0=>0
 |k+1=>cntTo f k+if f k then 1 else 0
theorem cntTo_le (f:Nat->Bool):∀k,cntTo f k<=k
 |0=>Nat.le_refl _
 |k+1=>by have:=cntTo_le f k;unfold cntTo;split<;>omega
def emptyFrom (p:List UInt8):Nat->Nat->Option Int
 |0,_=>none
 |f+1,i=>
  match p.drop i with
  |[]=>some (-1)
  |c::r=>
   if c=92 then
    match one (c::r)with
    |none=>none
    |some (_,n)=>emptyFrom p f (i+n)
   else if c=91 then
    match set r i with
    |none=>none
    |some (j,_,inn)=>if cntTo inn 256=0 then some i else emptyFrom p f j
   else emptyFrom p f (i+1)
theorem items_ge {l:List UInt8} (h:items f l i fa inn=some (j,fb,inb)):i<=j:=by
 induction f generalizing l i fa inn with
 |zero=>simp[items]at h
 |succ f ih=>
  unfold items at h;rcases l with _|⟨c,r⟩
  ·cases h
  simp only at h;split at h
  ·simp only[Option.some.injEq,Prod.mk.injEq]at h;omega
  rcases ho:one (c::r)with _|⟨a,n⟩
  ·rw[ho]at h;cases h
  rw[ho]at h;simp only at h;rcases hd:(c::r).drop n with _|⟨d,e⟩
  ·rw[hd]at h;cases h
  rw[hd]at h;simp only at h;split at h
  ·rcases ho2:one e with _|⟨b,n'⟩
   ·rw[ho2]at h;cases h
   rw[ho2]at h;have:=ih h;omega
  have:=ih h;omega
theorem set_ge {l:List UInt8} (h:set l i=some (j,fb,inb)):i+2<=j:=by
 unfold set at h;rcases l with _|⟨c,r⟩
 ·cases h
 simp only at h;split at h
 ·rcases hx:items (r.length+1) r (i+2) (-1) (λ_=>false)with _|⟨a,b,d⟩
  ·rw[hx]at h;cases h
  rw[hx]at h;have:=items_ge hx;simp only[Option.map_some,Option.some.injEq,Prod.mk.injEq]at h;omega
 rcases hx:items (r.length+2) (c::r) (i+1) (-1) (λ_=>false)with _|⟨a,b,d⟩
 ·rw[hx]at h;cases h
 rw[hx]at h;have:=items_ge hx;simp only[Option.map_some,Option.some.injEq,Prod.mk.injEq]at h;omega
end Rf
def sumTo (vs:Nat->Int):Nat->Int
 |0=>0
 |n+1=>sumTo vs n+vs n
namespace Rf
def groupFrom (p:List UInt8):Nat->Nat->Int->Option Nat
 |0,_,_=>none
 |f+1,i,o=>
  match p.drop i with
  |[]=>some 1
  |c::r=>
   if c=92 then
    match one (c::r)with
    |none=>none
    |some (_,n)=>groupFrom p f (i+n) o
   else if c=91 then
    match set r i with
    |none=>none
    |some (j,_,_)=>groupFrom p f j o
   else if c=40 then groupFrom p f (i+1) (o+1)
   else if c=41 then (if o-1=0 then some (i+1) else groupFrom p f (i+1) (o-1))
   else groupFrom p f (i+1) o
def atom (l:List UInt8):Option Nat:=
 match l with
 |[]=>none
 |c::r=>
  if c=92 then (one (c::r)).map (·.2)
  else if c=91 then (set r 0).map (·.1)
  else if c=40 then groupFrom (c::r) (r.length+2) 0 0
  else some 1
def closeFrom (p:List UInt8):Nat->Nat->Option Nat
 |0,_=>none
 |f+1,i=>
  match p.drop i with
  |[]=>none
  |c::_=>if c=125 then some (i+1) else closeFrom p f (i+1)
def suffixed (p:List UInt8) (i:Nat):Option Nat:=
 match p.drop i with
 |[]=>none
 |c::_=>if c=123 then closeFrom p (p.length+1) i else some (i+1)
def suffixes:List UInt8:=[42,43,63,123]
def pieceFrom (p:List UInt8):Nat->Nat->Option Nat
 |0,_=>none
 |f+1,n=>
  match p.drop n with
  |[]=>some n
  |c::_=>
   if has suffixes c.toNat then
    match suffixed p n with
    |none=>none
    |some n'=>pieceFrom p f n'
   else some n
def piece (l:List UInt8):Option Nat:=
 match atom l with
 |none=>none
 |some n=>pieceFrom l (l.length+1) n
def splitFrom (p:List UInt8):Nat->Nat->Nat->Option Nat
 |0,_,_=>none
 |f+1,n,cut=>
  match p.drop n with
  |[]=>some cut
  |_::_=>
   match suffixed p n with
   |none=>none
   |some n'=>splitFrom p f n' n
def split (l:List UInt8):Option Nat:=
 match atom l with
 |none=>none
 |some n=>splitFrom l (l.length+1) n n
def most:List UInt8->Option Int
 |_::x::y::r=>
  if digit x.toNat then
   if y=44 then
    match r with
    |z::_=>if digit z.toNat then some ((z.toNat:Int)-48) else none
    |[]=>none
   else some ((x.toNat:Int)-48)
  else none
 |_=>none
def cnt:Nat->Bool->List UInt8->Option Int
 |0,_,_=>none
 |f+1,true,l=>
  match l with
  |[]=>some 0
  |c::r=>
   if c=124 then cnt f true r
   else match piece (c::r)with
    |none=>none
    |some k=>
     match cnt f false ((c::r).take k),cnt f true ((c::r).drop k)with
     |some a,some b=>some (a+b)
     |_,_=>none
 |f+1,false,l=>
  match split l with
  |none=>none
  |some cut=>
   match l.drop cut with
   |u::us=>
    match cnt f false (l.take cut)with
    |none=>none
    |some n=>if u=123 then (most (u::us)).map (n*·) else some n
   |[]=>
    match l with
    |[]=>none
    |c::r=>if c=40 then (if r.length=0 then none else cnt f true (r.take (r.length-1))) else some 1
theorem closeFrom_gt (h:closeFrom p f i=some n):i<n/\n<=p.length:=by
 induction f generalizing i with
 |zero=>simp[closeFrom]at h
 |succ f ih=>
  unfold closeFrom at h;rcases hd:p.drop i with _|⟨c,r⟩
  ·rw[hd]at h;cases h
  rw[hd]at h;have b:i<p.length:=by
   rcases Nat.lt_or_ge i p.length with a|a
   ·exact a
   rw[List.drop_eq_nil_of_le a]at hd;cases hd
  simp only at h;split at h
  ·simp at h;omega
  have:=ih h;omega
theorem suffixed_gt (h:suffixed p i=some n):i<n:=by
 unfold suffixed at h;rcases hd:p.drop i with _|⟨c,r⟩
 ·rw[hd]at h;cases h
 rw[hd]at h;simp only at h;split at h
 ·exact(closeFrom_gt h).1
 simp at h;omega
theorem suffixed_le (h:suffixed p i=some n):n<=p.length:=by
 unfold suffixed at h;rcases hd:p.drop i with _|⟨c,r⟩
 ·rw[hd]at h;cases h
 rw[hd]at h;have b:i<p.length:=by
  rcases Nat.lt_or_ge i p.length with a|a
  ·exact a
  rw[List.drop_eq_nil_of_le a]at hd;cases hd
 simp only at h;split at h
 ·exact(closeFrom_gt h).2
 simp at h;omega
theorem splitFrom_le {c r:Nat} (h:splitFrom p f n c=some r):c<=p.length->r<=p.length:=by
 induction f generalizing n c with
 |zero=>simp[splitFrom]at h
 |succ f ih=>
  intro b;unfold splitFrom at h;rcases hd:p.drop n with _|⟨x,y⟩
  ·rw[hd]at h;simp at h;omega
  rw[hd]at h;have d:n<p.length:=by
   rcases Nat.lt_or_ge n p.length with a|a
   ·exact a
   rw[List.drop_eq_nil_of_le a]at hd;cases hd
  simp only at h;rcases hs:suffixed p n with _|n'
  ·rw[hs]at h;cases h
  rw[hs]at h;exact ih h (by omega)
theorem one_le {l:List UInt8}{v:Int} (h:one l=some (v,n)):n<=l.length:=by
 unfold one at h;rcases l with _|⟨c,r⟩
 ·cases h
 simp only at h;split at h
 ·rcases r with _|⟨d,a⟩
  ·cases h
  simp only at h;split at h
  ·simp at h;simp;omega
  split at h
  ·simp at h;simp;omega
  split at h
  ·rcases a with _|⟨x,_|⟨y,b⟩⟩
   ·cases h
   ·cases h
   simp only at h;split at h
   ·simp only[Option.some.injEq,Prod.mk.injEq]at h;simp;omega
   cases h
  simp only[Option.some.injEq,Prod.mk.injEq]at h;simp;omega
 simp only[Option.some.injEq,Prod.mk.injEq]at h;simp;omega
theorem items_lt {l:List UInt8} (h:items f l i fa inn=some (j,fb,inb)):j<i+l.length:=by
 induction f generalizing l i fa inn with
 |zero=>simp[items]at h
 |succ f ih=>
  unfold items at h;rcases l with _|⟨c,r⟩
  ·cases h
  simp only at h;split at h
  ·simp only[Option.some.injEq,Prod.mk.injEq]at h;simp;omega
  rcases ho:one (c::r)with _|⟨a,n⟩
  ·rw[ho]at h;cases h
  rw[ho]at h;simp only at h;have m:=one_le ho;rcases hd:(c::r).drop n with _|⟨d,e⟩
  ·rw[hd]at h;cases h
  have k:(d::e).length=(c::r).length-n:=by rw[<-hd];simp
  rw[hd]at h;simp only at h;split at h
  ·rcases ho2:one e with _|⟨b,n'⟩
   ·rw[ho2]at h;cases h
   rw[ho2]at h;have g:=one_le ho2;have:=ih h;simp only[List.length_drop,List.length_cons]at *;omega
  have:=ih h;simp only[List.length_cons]at *;omega
theorem set_le {l:List UInt8} (h:set l i=some (j,fb,inb)):j<=i+1+l.length:=by
 unfold set at h;rcases l with _|⟨c,r⟩
 ·cases h
 simp only at h;split at h
 ·rcases hx:items (r.length+1) r (i+2) (-1) (λ_=>false)with _|⟨a,b,d⟩
  ·rw[hx]at h;cases h
  rw[hx]at h;have:=items_lt hx;simp only[Option.map_some,Option.some.injEq,Prod.mk.injEq]at h;simp;omega
 rcases hx:items (r.length+2) (c::r) (i+1) (-1) (λ_=>false)with _|⟨a,b,d⟩
 ·rw[hx]at h;cases h
 rw[hx]at h;have:=items_lt hx;simp only[Option.map_some,Option.some.injEq,Prod.mk.injEq]at h;simp at *;omega
theorem groupFrom_le {o:Int} (h:groupFrom p f i o=some n):1<=n/\(1<=p.length->n<=p.length):=by
 induction f generalizing i o with
 |zero=>simp[groupFrom]at h
 |succ f ih=>
  unfold groupFrom at h;rcases hd:p.drop i with _|⟨c,r⟩
  ·rw[hd]at h;simp at h;omega
  rw[hd]at h;have e:i<p.length:=by
   rcases Nat.lt_or_ge i p.length with d|d
   ·exact d
   rw[List.drop_eq_nil_of_le d]at hd;cases hd
  simp only at h;split at h
  ·rcases ho:one (c::r)with _|⟨a,n'⟩
   ·rw[ho]at h;cases h
   rw[ho]at h;exact ih h
  split at h
  ·rcases ho:set r i with _|⟨j,a,b⟩
   ·rw[ho]at h;cases h
   rw[ho]at h;exact ih h
  split at h
  ·exact ih h
  split at h
  ·split at h
   ·simp at h;omega
   exact ih h
  exact ih h
theorem atom_le {l:List UInt8} (h:atom l=some n):1<=n/\n<=l.length:=by
 unfold atom at h;rcases l with _|⟨c,r⟩
 ·cases h
 simp only at h;split at h
 ·rcases ho:one (c::r)with _|⟨a,n'⟩
  ·rw[ho]at h;cases h
  have d:=one_bd ho;have e:=one_le ho;rw[ho]at h;simp at h;omega
 split at h
 ·rcases ho:set r 0 with _|⟨j,a,b⟩
  ·rw[ho]at h;cases h
  have d:=set_ge ho;have e:=set_le ho;rw[ho]at h;simp at h;simp at *;omega
 split at h
 ·have:=groupFrom_le h;simp at *;omega
 simp at h;simp;omega
theorem pieceFrom_le {r:Nat} (h:pieceFrom p f n=some r):n<=p.length->n<=r/\r<=p.length:=by
 induction f generalizing n with
 |zero=>simp[pieceFrom]at h
 |succ f ih=>
  intro c;unfold pieceFrom at h;rcases hd:p.drop n with _|⟨x,y⟩
  ·rw[hd]at h;simp at h;omega
  rw[hd]at h;simp only at h;split at h
  ·rcases hs:suffixed p n with _|n'
   ·rw[hs]at h;cases h
   rw[hs]at h;have b:=suffixed_gt hs;have a:=suffixed_le hs;have:=ih h a;omega
  simp at h;omega
theorem piece_le {l:List UInt8} (h:piece l=some n):1<=n/\n<=l.length:=by
 unfold piece at h;rcases ha:atom l with _|n0
 ·rw[ha]at h;cases h
 rw[ha]at h;have a:=atom_le ha;have:=pieceFrom_le h a.2;omega
theorem split_le {l:List UInt8} (h:split l=some n):n<=l.length:=by
 unfold split at h;rcases ha:atom l with _|n0
 ·rw[ha]at h;cases h
 rw[ha]at h;exact splitFrom_le h (atom_le ha).2
theorem most_bd {l:List UInt8}{m:Int} (h:most l=some m):0<=m/\m<=9/\3<=l.length:=by
 unfold most at h;split at h
 ·rename_i x y z r;split at h
  ·rename_i c;have d:48<=(y.toNat:Int)/\(y.toNat:Int)<=57:=by simpa[digit]using c
   split at h
   ·split at h
    ·rename_i a b;split at h
     ·rename_i e;have f:48<=(a.toNat:Int)/\(a.toNat:Int)<=57:=by simpa[digit]using e
      simp at h;simp;omega
     cases h
    cases h
   simp at h;simp;omega
  cases h
 cases h
theorem pow_add_le (a b:Nat) (ha:1<=a) (hb:1<=b):5 ^ a*2 ^ b+5 ^ b*2 ^ a<=5 ^ (a+b):=by
 obtain⟨a,rfl⟩:∃a',a=a'+1:=⟨a-1,by omega⟩;obtain⟨b,rfl⟩:∃b',b=b'+1:=⟨b-1,by omega⟩;have c:(2:Nat) ^ b<=5 ^ b:=Nat.pow_le_pow_left (by omega) b;have d:(2:Nat) ^ a<=5 ^ a:=Nat.pow_le_pow_left (by omega) a;have g:(5:Nat) ^ a*2 ^ b<=5 ^ a*5 ^ b:=Nat.mul_le_mul_left _ c;have h:(5:Nat) ^ b*2 ^ a<=5 ^ b*5 ^ a:=Nat.mul_le_mul_left _ d;have i:(5:Nat) ^ b*5 ^ a=5 ^ a*5 ^ b:=Nat.mul_comm _ _;have e:(5:Nat) ^ (a+1)*2 ^ (b+1)=10*(5 ^ a*2 ^ b):=by rw[Nat.pow_succ,Nat.pow_succ,Nat.mul_mul_mul_comm];omega
 have e2:(5:Nat) ^ (b+1)*2 ^ (a+1)=10*(5 ^ b*2 ^ a):=by rw[Nat.pow_succ,Nat.pow_succ,Nat.mul_mul_mul_comm];omega
 have f:(5:Nat) ^ (a+1+(b+1))=25*(5 ^ a*5 ^ b):=by
  rw[show a+1+(b+1)=(a+b)+2 by omega,Nat.pow_add,Nat.pow_add];omega
 omega
theorem cnt_bd:∀ {t:Bool}{l:List UInt8}{v:Int},cnt f t l=some v->0<=v/\v.toNat*2 ^ l.length<=5 ^ l.length/\(l=[]->v=0):=by
 induction f with
 |zero=>intro t l v h;simp[cnt]at h
 |succ f ih=>
  intro t l v h;cases t
  ·-- a piece
   unfold cnt at h;rcases hs:split l with _|g
   ·rw[hs]at h;cases h
   have H:=split_le hs;rw[hs]at h;simp only at h;rcases j:l.drop g with _|⟨u,D⟩
   ·rw[j]at h;rcases l with _|⟨c,r⟩
    ·simp at h
    simp only at h;split at h
    ·split at h
     ·cases h
     obtain⟨i,p,_⟩:=ih h;refine⟨i,?_,by simp⟩;have G:(r.take (r.length-1)).length=r.length-1:=by simp
     rw[G]at p;have L:(2:Nat) ^ (c::r).length<=4*2 ^ (r.length-1):=by
      rw[show 4=2 ^ 2 from rfl,<-Nat.pow_add];exact Nat.pow_le_pow_right (by omega) (by simp;omega)
     have R:(5:Nat)*5 ^ (r.length-1)<=5 ^ (c::r).length:=by
      rw[Nat.mul_comm,<-Nat.pow_succ];exact Nat.pow_le_pow_right (by omega) (by simp)
     calc v.toNat*2 ^ (c::r).length<=v.toNat*(4*2 ^ (r.length-1)):=Nat.mul_le_mul_left _ L
      _=4*(v.toNat*2 ^ (r.length-1)):=by rw[Nat.mul_left_comm]
      _<=5 ^ (c::r).length:=by omega
    simp only[Option.some.injEq]at h;subst h;refine⟨by omega,?_,by simp⟩;have:(2:Nat) ^ (c::r).length<=5 ^ (c::r).length:=Nat.pow_le_pow_left (by omega) _;simpa using this
   rw[j]at h;simp only at h;rcases hx:cnt f false (l.take g)with _|n
   ·rw[hx]at h;cases h
   obtain⟨i,p,_⟩:=ih hx;rw[hx]at h;simp only at h;have q:(l.take g).length=g:=by simp;omega
   have F:(u::D).length=l.length-g:=by rw[<-j];simp
   have s:l≠[]:=by intro e;rw[e]at j;simp at j
   rw[q]at p;split at h
   ·rcases hm:most (u::D)with _|m
    ·rw[hm]at h;cases h
    obtain⟨C,Q,m2⟩:=most_bd hm;rw[hm]at h;simp only[Option.map_some,Option.some.injEq]at h;subst h;refine⟨Int.mul_nonneg i C,?_,λe=>absurd e s⟩;obtain⟨d,o⟩:∃d,l.length=g+(d+3):=⟨l.length-g-3,by omega⟩;have y:=Int.toNat_mul i C;rw[y,o,Nat.pow_add 2 g,Nat.pow_add 5 g];have M:m.toNat*2 ^ (d+3)<=5 ^ (d+3):=by
     have A:m.toNat<=9:=by omega
     have:(2:Nat) ^ d<=5 ^ d:=Nat.pow_le_pow_left (by omega) d
     calc m.toNat*2 ^ (d+3)<=9*2 ^ (d+3):=Nat.mul_le_mul_right _ A
      _<=5 ^ (d+3):=by rw[Nat.pow_add,Nat.pow_add];omega
    calc n.toNat*m.toNat*(2 ^ g*2 ^ (d+3))=(n.toNat*2 ^ g)*(m.toNat*2 ^ (d+3)):=by rw[Nat.mul_mul_mul_comm]
     _<=5 ^ g*5 ^ (d+3):=Nat.mul_le_mul p M
   simp only[Option.some.injEq]at h;subst h;refine⟨i,?_,λe=>absurd e s⟩;obtain⟨d,o⟩:∃d,l.length=g+d:=⟨l.length-g,by omega⟩;rw[o,Nat.pow_add,Nat.pow_add,<-Nat.mul_assoc];exact Nat.mul_le_mul p (Nat.pow_le_pow_left (by omega) d)
  -- a pattern
  unfold cnt at h;rcases l with _|⟨c,r⟩
  ·simp only[Option.some.injEq]at h;subst h;exact⟨by omega,by simp,λ_=>rfl⟩
  simp only at h;split at h
  ·obtain⟨i,p,_⟩:=ih h;refine⟨i,?_,by simp⟩;rw[List.length_cons,Nat.pow_succ,Nat.pow_succ,<-Nat.mul_assoc];omega
  rcases hp:piece (c::r)with _|k
  ·rw[hp]at h;cases h
  obtain⟨J,P⟩:=piece_le hp;rw[hp]at h;simp only at h;rcases ha:cnt f false ((c::r).take k)with _|a
  ·rw[ha]at h;simp at h
  rcases hb:cnt f true ((c::r).drop k)with _|b
  ·rw[ha,hb]at h;simp at h
  rw[ha,hb]at h;simp only[Option.some.injEq]at h;subst h;obtain⟨N,x,_⟩:=ih ha;obtain⟨O,B,E⟩:=ih hb;refine⟨by omega,?_,by simp⟩;have K:((c::r).take k).length=k:=by simp at *;omega
  rw[K]at x;obtain⟨d,j⟩:∃d,(c::r).length=k+d:=⟨(c::r).length-k,by omega⟩;have lb:((c::r).drop k).length=d:=by simp only[List.length_drop];omega
  rw[lb]at B;rw[j];have y:(a+b).toNat=a.toNat+b.toNat:=by omega
  rw[y,Nat.add_mul,Nat.pow_add 2 k d];rcases Nat.eq_zero_or_pos d with I|w
  ·have z:b=0:=E (List.eq_nil_of_length_eq_zero (by omega));subst I;subst z;simpa using x
  have:=pow_add_le k d J w;have S:a.toNat*(2 ^ k*2 ^ d)<=5 ^ k*2 ^ d:=by rw[<-Nat.mul_assoc];exact Nat.mul_le_mul_right _ x
  have T:b.toNat*(2 ^ k*2 ^ d)<=5 ^ d*2 ^ k:=by rw[Nat.mul_comm (2 ^ k),<-Nat.mul_assoc];exact Nat.mul_le_mul_right _ B
  omega
theorem cnt_small {t:Bool}{l:List UInt8}{v:Int} (h:cnt f t l=some v) (hl:l.length<=40):0<=v/\v<=9094947017729282:=by
 obtain⟨a,b,_⟩:=cnt_bd h;refine⟨a,?_⟩;obtain⟨d,c⟩:∃d,40=l.length+d:=⟨40-l.length,by omega⟩;have e:v.toNat*2 ^ 40<=5 ^ 40:=by
  rw[c,Nat.pow_add,Nat.pow_add,<-Nat.mul_assoc];exact Nat.mul_le_mul b (Nat.pow_le_pow_left (by omega) d)
 omega
def WrongIs (l:List UInt8) (e a:Int):Prop:=
 (40<l.length/\e=2/\a=0)\/(l.length<=40 /\
  ((0<=form l/\e=3/\a=form l)\/(form l<0 /\
   ((0<=deep l/\e=4/\a=deep l)\/(deep l<0/\∃f v,valueFrom l f 0=some v /\
    ((0<=v/\e=5/\a=v)\/(v<0/\∃g u,emptyFrom l g 0=some u/\((0<=u/\e=6/\a=u)\/(u<0/\e=0/\a=0)))))))))
end Rf
end Go.Proofs.YtoaaklhpmhjhkaaGreat
namespace Go.Proofs.YtoaaklhpmhjhkaaGreat
namespace Bm
def leastTo (E:Nat->Nat->Bool) (a:Nat):Nat->Nat
 |0=>a
 |k+1=>if leastTo E a k<k then leastTo E a k else if E k a then k else a
def least (E:Nat->Nat->Bool) (a:Nat):Nat:=leastTo E a a
theorem leastTo_spec (E:Nat->Nat->Bool) (a:Nat):∀k,k<=a->(leastTo E a k<k/\E (leastTo E a k) a=true/\∀b,b<leastTo E a k->E b a=false)\/(leastTo E a k=a/\∀b,b<k->E b a=false)
 |0,_=>Or.inr ⟨rfl,λb c=>by omega⟩
 |k+1,hk=>by
  rw[leastTo];rcases leastTo_spec E a k (by omega)with ⟨h1,h2,h3⟩|⟨h1,h2⟩
  ·rw[if_pos h1];exact Or.inl ⟨by omega,h2,h3⟩
  rw[if_neg (by omega)];cases h:E k a
  ·simp only[Bool.false_eq_true,if_false];refine Or.inr ⟨trivial,λb c=>?_⟩;by_cases e:b=k
   ·subst e;exact h
   exact h2 b (by omega)
  simp only[if_true];exact Or.inl ⟨by omega,h,h2⟩
structure Eqv (E:Nat->Nat->Bool) (n:Nat):Prop where
 refl:∀a,a<n->E a a=true
 symm:∀a b,a<n->b<n->E a b=true->E b a=true
 trans:∀a b c,a<n->b<n->c<n->E a b=true->E b c=true->E a c=true
theorem least_le (E:Nat->Nat->Bool) (a:Nat):least E a<=a:=by
 rcases leastTo_spec E a a (Nat.le_refl _)with ⟨h1,_⟩|⟨h1,_⟩<;>(unfold least;omega)
variable {b : Nat}{E : Nat → Nat → Bool}
theorem least_min {a:Nat} (h:b<least E a):E b a=false:=by
 rcases leastTo_spec E a a (Nat.le_refl _)with ⟨_,_,h3⟩|⟨h1,h2⟩
 ·exact h3 b h
 exact h2 b (by unfold least at h;omega)
variable {n : Nat}
theorem least_like {a:Nat} (hE:Eqv E n) (ha:a<n):E (least E a) a=true:=by
 rcases leastTo_spec E a a (Nat.le_refl _)with ⟨_,h2,_⟩|⟨h1,_⟩
 ·exact h2
 unfold least;rw[h1];exact hE.refl a ha
theorem least_eq {a r:Nat} (h:E r a=true) (hm:∀b,b<r->E b a=false) (hE:E (least E a) a=true):least E a=r:=by
 have e:¬least E a<r:=λc=>by rw[hm _ c]at hE;cases hE
 have c:¬r<least E a:=λd=>by rw[least_min d]at h;cases h
 omega
theorem least_of_like {a:Nat} (hE:Eqv E n) (ha:a<n) (hb:b<n) (h:E a b=true):least E a=least E b:=by
 have e:=least_like hE ha;have lb:=least_like hE hb;have g:=least_le E a;have i:=least_le E b;have f:¬least E a<least E b:=λc=>by
  have:=hE.trans (least E a) a b (by omega) ha hb e h;rw[least_min c]at this;cases this
 have c:¬least E b<least E a:=λd=>by
  have:=hE.trans (least E b) b a (by omega) hb ha lb (hE.symm a b ha hb h);rw[least_min d]at this;cases this
 omega
theorem like_of_least {a:Nat} (hE:Eqv E n) (ha:a<n) (hb:b<n) (h:least E a=least E b):E a b=true:=by
 have c:=least_like hE ha;have lb:=least_like hE hb;have d:=least_le E a;rw[<-h]at lb;exact hE.trans a (least E a) b ha (by omega) hb (hE.symm _ _ (by omega) ha c) lb
theorem least_idem {a:Nat} (hE:Eqv E n) (ha:a<n):least E (least E a)=least E a:=by
 have b:=least_le E a;exact least_of_like hE (by omega) ha (least_like hE ha)
def reps (E:Nat->Nat->Bool) (n:Nat):List Nat:=(List.range n).filter λa=>least E a==a
def cnt (E:Nat->Nat->Bool) (n:Nat):Nat:=(reps E n).length
def idx (E:Nat->Nat->Bool) (a:Nat):Nat:=cnt E (least E a)
theorem reps_succ (E:Nat->Nat->Bool) (n:Nat):reps E (n+1)=reps E n++if least E n=n then [n] else []:=by
 unfold reps;rw[List.range_succ,List.filter_append];congr 1;by_cases h:least E n=n
 ·rw[if_pos h];simp[h]
 rw[if_neg h];simp[h]
theorem cnt_succ (E:Nat->Nat->Bool) (n:Nat):cnt E (n+1)=cnt E n+if least E n=n then 1 else 0:=by
 unfold cnt;rw[reps_succ,List.length_append];split<;>rfl
theorem cnt_mono (E:Nat->Nat->Bool) {a b:Nat} (h:a<=b):cnt E a<=cnt E b:=by
 induction b with
 |zero=>
   have:a=0:=by omega
   subst this;exact Nat.le_refl _
 |succ b ih=>
  by_cases e:a=b+1
  ·subst e;exact Nat.le_refl _
  have:=ih (by omega);rw[cnt_succ];omega
theorem cnt_le (E:Nat->Nat->Bool) (n:Nat):cnt E n<=n:=by
 unfold cnt reps;have:=List.length_filter_le (λa=>least E a==a) (List.range n);simpa using this
theorem reps_get (E:Nat->Nat->Bool):∀(n a:Nat),a<n->least E a=a->(reps E n)[cnt E a]?=some a
 |0,a,h,_=>by omega
 |n+1,a,h,hr=>by
  rw[reps_succ];by_cases e:a=n
  ·subst e;rw[if_pos hr,List.getElem?_append_right (by unfold cnt;omega)];simp[cnt]
  have b:=reps_get E n a (by omega) hr;rw[List.getElem?_append_left (List.getElem?_eq_some_iff.1 b).1];exact b
variable {k : Nat}
theorem reps_mem {a:Nat} (h:(reps E n)[k]?=some a):a<n/\least E a=a/\cnt E a=k:=by
 induction n with
 |zero=>simp[reps]at h
 |succ n ih=>
  rw[reps_succ]at h;by_cases f:k<(reps E n).length
  ·rw[List.getElem?_append_left f]at h;obtain⟨g,d,e⟩:=ih h;exact⟨by omega,d,e⟩
  rw[List.getElem?_append_right (by omega)]at h;by_cases c:least E n=n
  ·rw[if_pos c]at h;have b:k-(reps E n).length=0:=by
    have:=(List.getElem?_eq_some_iff.1 h).1;simp at this;omega
   rw[b]at h;simp at h;subst h;exact⟨by omega,c,by unfold cnt;omega⟩
  rw[if_neg c]at h;simp at h
theorem cnt_lt {a:Nat} (hr:least E a=a) (h:a<b):cnt E a<cnt E b:=by
 have c:=cnt_succ E a;rw[if_pos hr]at c;have d:=cnt_mono E (show a+1<=b by omega);omega
theorem cnt_inj {a:Nat} (ha:least E a=a) (hb:least E b=b) (h:cnt E a=cnt E b):a=b:=by
 rcases Nat.lt_trichotomy a b with c|c|c
 ·have:=cnt_lt ha c;omega
 ·exact c
 have:=cnt_lt hb c;omega
theorem idx_lt {a:Nat} (hE:Eqv E n) (ha:a<n):idx E a<cnt E n:=by
 have:=least_le E a;exact cnt_lt (least_idem hE ha) (by omega)
theorem idx_eq {a:Nat} (hE:Eqv E n) (ha:a<n) (hb:b<n):idx E a=idx E b<->E a b=true:=by
 constructor
 ·intro h;exact like_of_least hE ha hb (cnt_inj (least_idem hE ha) (least_idem hE hb) h)
 intro h;unfold idx;rw[least_of_like hE ha hb h]
theorem idx_rep {a:Nat} (h:least E a=a):idx E a=cnt E a:=by unfold idx;rw[h]
theorem rep_like {a r:Nat} (hE:Eqv E n) (ha:a<n) (h:(reps E a)[k]?=some r):E r a=true<->k=idx E a:=by
 obtain⟨d,b,c⟩:=reps_mem h;rw[<-idx_eq hE (by omega) ha,idx_rep b,c]
theorem rep_new {a:Nat} (hE:Eqv E n) (ha:a<n):(idx E a=cnt E a<->least E a=a)/\idx E a<=cnt E a:=by
 have c:=least_le E a;refine⟨⟨λh=>?_,λh=>idx_rep h⟩,cnt_mono E c⟩;rcases Nat.lt_or_ge (least E a) a with b|b
 ·have:=cnt_lt (least_idem hE ha) b;unfold idx at h;omega
 omega
end Bm
namespace Bm
structure Aut where
 N:Nat
 K:Nat
 to:Nat->Nat->Int
 vd:Nat->Int
def ext (A:Aut):Int->List Nat->Int
 |s,[]=>if s<0 then -1 else A.vd s.toNat
 |s,k::w=>if s<0 then -1 else ext A (A.to s.toNat k) w
theorem ext_none (A:Aut) (w:List Nat) {s:Int} (h:s<0):ext A s w=-1:=by
 cases w<;>simp[ext,h]
theorem ext_nil (A:Aut) (a:Nat):ext A (a:Int) []=A.vd a:=by
 simp only[ext];rw[if_neg (by omega),Int.toNat_natCast]
theorem ext_cons (A:Aut) (a k:Nat) (w:List Nat):ext A (a:Int) (k::w)=ext A (A.to a k) w:=by
 simp only[ext];rw[if_neg (by omega),Int.toNat_natCast]
def Kd (A:Aut) (w:List Nat):Prop:=∀k∈w,k<A.K
theorem Kd.nil (A:Aut):Kd A []:=λk a=>by cases a
variable {A : Aut}{k : Nat}
theorem Kd.cons {w:List Nat} (hk:k<A.K) (hw:Kd A w):Kd A (k::w):=λj a=>by
 rcases List.mem_cons.1 a with rfl|h
 ·exact hk
 exact hw j h
theorem Kd.tail {w:List Nat} (h:Kd A (k::w)):k<A.K/\Kd A w:=⟨h k (by simp),λj a=>h j (by simp[a])⟩
def Al (A:Aut) (a b:Int):Prop:=∀w,Kd A w->ext A a w=ext A b w
theorem Al.refl (A:Aut) (a:Int):Al A a a:=λ_ _=>rfl
theorem Al.symm {a b:Int} (h:Al A a b):Al A b a:=λw c=>(h w c).symm
theorem Al.trans {a b c:Int} (h:Al A a b) (k:Al A b c):Al A a c:=λw d=>(h w d).trans (k w d)
variable {b : Nat}
theorem Al.vd {a:Nat} (h:Al A a b):A.vd a=A.vd b:=by
 have:=h [] (Kd.nil A);rw[ext_nil,ext_nil]at this;exact this
theorem Al.to {a:Nat} (h:Al A a b) (hk:k<A.K):Al A (A.to a k) (A.to b k):=λw c=>by
 have:=h (k::w) (c.cons hk);rw[ext_cons,ext_cons]at this;exact this
structure Aut.Good (A:Aut):Prop where
 rng:∀s k,s<A.N->k<A.K->-1<=A.to s k/\A.to s k<A.N
 live:∀s:Nat,s<A.N->¬Al A s (-1)
def gAt (A:Aut) (of:Nat->Int) (a k:Nat):Int:=if A.to a k=-1 then -1 else of (A.to a k).toNat
def Tg (A:Aut) (of:Nat->Int) (a b:Nat):Bool:=of a==of b&&(List.range A.K).all λk=>gAt A of a k==gAt A of b k
theorem Tg_iff (A:Aut) (of:Nat->Int) (a b:Nat):Tg A of a b=true<->of a=of b/\∀k,k<A.K->gAt A of a k=gAt A of b k:=by
 simp[Tg]
theorem Tg_eqv (A:Aut) (of:Nat->Int) (n:Nat):Eqv (Tg A of) n:=
 ⟨λa _=>(Tg_iff A of a a).2 ⟨rfl,λ_ _=>rfl⟩,
  λa b _ _ h=>by
  obtain⟨e,f⟩:=(Tg_iff A of a b).1 h;exact(Tg_iff A of b a).2 ⟨e.symm,λk d=>(f k d).symm⟩,
  λa b c _ _ _ h g=>by
  obtain⟨e,f⟩:=(Tg_iff A of a b).1 h;obtain⟨i,j⟩:=(Tg_iff A of b c).1 g;exact(Tg_iff A of a c).2 ⟨e.trans i,λk d=>(f k d).trans (j k d)⟩⟩
theorem Tg_al (hA:A.Good) {of:Nat->Int} (h:∀a b:Nat,a<A.N->b<A.N->Al A a b->of a=of b) {a b:Nat} (ha:a<A.N) (hb:b<A.N) (hab:Al A a b):Tg A of a b=true:=by
 refine(Tg_iff A of a b).2 ⟨h a b ha hb hab,λk g=>?_⟩;have c:=hab.to g;have j:=hA.rng a k ha g;have l:=hA.rng b k hb g;unfold gAt;by_cases f:A.to a k=-1
 ·by_cases e:A.to b k=-1
  ·rw[if_pos f,if_pos e]
  exfalso;obtain⟨m,d⟩:=Int.eq_ofNat_of_zero_le (show 0<=A.to b k by omega);rw[f,d]at c;exact hA.live m (by omega) c.symm
 by_cases e:A.to b k=-1
 ·exfalso;obtain⟨m,d⟩:=Int.eq_ofNat_of_zero_le (show 0<=A.to a k by omega);rw[e,d]at c;exact hA.live m (by omega) c
 rw[if_neg f,if_neg e];obtain⟨m,d⟩:=Int.eq_ofNat_of_zero_le (show 0<=A.to a k by omega);obtain⟨p,i⟩:=Int.eq_ofNat_of_zero_le (show 0<=A.to b k by omega);rw[d,i]at c ⊢;rw[Int.toNat_natCast,Int.toNat_natCast];exact h m p (by omega) (by omega) c
variable {n : Nat}{E : Nat → Nat → Bool}
theorem finer_eq {F:Nat->Nat->Bool} (hE:Eqv E n) (hF:Eqv F n) (h:∀a b,a<n->b<n->F a b=true->E a b=true) (hc:cnt F n<=cnt E n):
  ∀a b,a<n->b<n->E a b=true->F a b=true:=by
 have r:∀a,a<n->least E a=a->least F a=a:=λa ha g=>by
  have m:=least_le F a;rcases Nat.lt_or_ge (least F a) a with c|c
  ·have o:=h _ _ (by omega) ha (least_like hF ha);have s:=least_of_like hE (by omega) ha o;have u:=least_le E (least F a);rw[g]at s;omega
  omega
 have t:∀k,k<=n->cnt E k<=cnt F k:=by
  intro k
  induction k with
  |zero=>intro _;exact Nat.le_refl _
  |succ k ih=>
   intro f;have:=ih (by omega);rw[cnt_succ,cnt_succ];by_cases e:least E k=k
   ·rw[if_pos e,if_pos (r k (by omega) e)];omega
   rw[if_neg e];omega
 have hs:∀k,k<=n->cnt F n-cnt F k>=cnt E n-cnt E k/\cnt F k<=cnt F n/\cnt E k<=cnt E n:=by
  intro k f;refine⟨?_,cnt_mono F f,cnt_mono E f⟩;obtain⟨d,rfl⟩:∃d,n=k+d:=⟨n-k,by omega⟩;have:∀j,j<=d->cnt E (k+j)-cnt E k<=cnt F (k+j)-cnt F k:=by
   intro j
   induction j with
   |zero=>intro _;simp
   |succ j ih=>
    intro v;have m:=ih (by omega);have c:=cnt_mono E (show k<=k+j by omega);have o:=cnt_mono F (show k<=k+j by omega);rw[<-Nat.add_assoc,cnt_succ,cnt_succ];by_cases e:least E (k+j)=k+j
    ·rw[if_pos e,if_pos (r _ (by omega) e)];omega
    rw[if_neg e];omega
  exact this d (Nat.le_refl _)
 have i:∀k,k<=n->cnt E k=cnt F k:=λk f=>by
  have m:=t k f;have c:=hs k f;omega
 have l:∀a,a<n->least F a=a->least E a=a:=λa ha g=>by
  have m:=i a (by omega);have c:=i (a+1) (by omega);rw[cnt_succ,cnt_succ,if_pos g]at c;by_cases e:least E a=a
  ·exact e
  rw[if_neg e]at c;omega
 have g:∀a,a<n->least E a=least F a:=λa ha=>by
  have m:=least_le F a;have c:=l (least F a) (by omega) (least_idem hF ha);have o:=least_of_like hE (by omega) ha (h _ _ (by omega) ha (least_like hF ha));rw[<-o,c]
 intro a b ha q p;exact like_of_least hF ha q (by rw[<-g a ha,<-g b q];exact least_of_like hE ha q p)
def idxI (E:Nat->Nat->Bool) (a:Nat):Int:=(idx E a:Int)
structure Part (A:Aut) (E:Nat->Nat->Bool):Prop where
 eqv:Eqv E A.N
 vd:∀a b,a<A.N->b<A.N->E a b=true->A.vd a=A.vd b
 al:∀a b:Nat,a<A.N->b<A.N->Al A a b->E a b=true
theorem Part.first (hA:A.Good):Part A (Tg A λa=>A.vd a+1):=
 ⟨Tg_eqv _ _ _,λa b _ _ h=>by have:=((Tg_iff _ _ _ _).1 h).1;omega,λa b ha c h=>Tg_al hA (λa b _ _ h=>by rw[h.vd]) ha c h⟩
theorem Part.next (hA:A.Good) (h:Part A E):Part A (Tg A (idxI E))/\∀a b,a<A.N->b<A.N->Tg A (idxI E) a b=true->E a b=true:=by
 have f:∀a b,a<A.N->b<A.N->Tg A (idxI E) a b=true->E a b=true:=λa b ha c e=>by
  have g:=((Tg_iff _ _ _ _).1 e).1;exact(idx_eq h.eqv ha c).1 (by unfold idxI at g;omega)
 refine⟨⟨Tg_eqv _ _ _,λa b ha c e=>h.vd a b ha c (f a b ha c e),λa b ha c d=>Tg_al hA (λa b ha c d=>?_) ha c d⟩,f⟩;unfold idxI;rw[(idx_eq h.eqv ha c).2 (h.al a b ha c d)]
theorem Part.stable (hA:A.Good) (h:Part A E) (hc:cnt (Tg A (idxI E)) A.N<=cnt E A.N):∀a b:Nat,a<A.N->b<A.N->(Tg A (idxI E) a b=true<->Al A a b):=by
 obtain⟨d,l⟩:=h.next hA;have n:=finer_eq h.eqv d.eqv l hc;have r:∀(w:List Nat) (a b:Nat),Kd A w->a<A.N->b<A.N->E a b=true->ext A a w=ext A b w:=by
  intro w
  induction w with
  |nil=>
   intro a b _ ha e f;simp only[ext,Int.toNat_natCast];rw[if_neg (by omega),if_neg (by omega)];exact h.vd a b ha e f
  |cons k w ih=>
   intro a b i ha e f;obtain⟨j,s⟩:=i.tail;have c:=((Tg_iff _ _ _ _).1 (n a b ha e f)).2 k j;have t:=hA.rng a k ha j;have u:=hA.rng b k e j;simp only[ext,Int.toNat_natCast];rw[if_neg (by omega),if_neg (by omega)];unfold gAt at c;by_cases g:A.to a k=-1
   ·rw[if_pos g]at c;by_cases d:A.to b k=-1
    ·rw[g,d]
    rw[if_neg d]at c;unfold idxI at c;omega
   rw[if_neg g]at c;by_cases d:A.to b k=-1
   ·rw[if_pos d]at c;unfold idxI at c;omega
   rw[if_neg d]at c;obtain⟨m,o⟩:=Int.eq_ofNat_of_zero_le (show 0<=A.to a k by omega);obtain⟨p,q⟩:=Int.eq_ofNat_of_zero_le (show 0<=A.to b k by omega);rw[o,q]at c ⊢;rw[Int.toNat_natCast,Int.toNat_natCast]at c;exact ih m p s (by omega) (by omega) ((idx_eq h.eqv (by omega) (by omega)).1 (by unfold idxI at c;omega))
 intro a b ha e;constructor
 ·intro c w i;exact r w a b i ha e (l a b ha e c)
 exact d.al a b ha e
open Classical in
noncomputable def alB (A:Aut) (a b:Nat):Bool:=decide (Al A a b)
theorem alB_iff (A:Aut) (a b:Nat):alB A a b=true<->Al A a b:=by simp[alB]
theorem alB_eqv (A:Aut) (n:Nat):Eqv (alB A) n:=
 ⟨λa _=>(alB_iff A a a).2 (Al.refl A a),λa b _ _ h=>(alB_iff A b a).2 ((alB_iff A a b).1 h).symm,λa b c _ _ _ h k=>(alB_iff A a c).2 (((alB_iff A a b).1 h).trans ((alB_iff A b c).1 k))⟩
theorem least_congr {F:Nat->Nat->Bool} (hE:Eqv E n) (hF:Eqv F n) (h:∀a b,a<n->b<n->(E a b=true<->F a b=true)) {a:Nat} (ha:a<n):least E a=least F a:=by
 have c:=least_le E a;have d:=least_le F a;have e:=least_of_like hF (by omega) ha ((h _ _ (by omega) ha).1 (least_like hE ha));have f:=least_of_like hE (by omega) ha ((h _ _ (by omega) ha).2 (least_like hF ha));have g:=least_le F (least E a);have i:=least_le E (least F a);omega
theorem reps_congr {F:Nat->Nat->Bool} (hE:Eqv E n) (hF:Eqv F n) (h:∀a b,a<n->b<n->(E a b=true<->F a b=true)):∀m,m<=n->reps E m=reps F m
 |0,_=>rfl
 |m+1,hm=>by rw[reps_succ,reps_succ,reps_congr hE hF h m (by omega),least_congr hE hF h (show m<n by omega)]
theorem idx_congr {F:Nat->Nat->Bool} (hE:Eqv E n) (hF:Eqv F n) (h:∀a b,a<n->b<n->(E a b=true<->F a b=true)) {a:Nat} (ha:a<n):idx E a=idx F a:=by
 have:=least_le F a;unfold idx cnt;rw[least_congr hE hF h ha,reps_congr hE hF h _ (by omega)]
def st (A:Aut) (i:Nat):Int:=if i=A.N then -1 else i
variable {t : Nat → Nat → Bool}{toN : Nat → Nat → Nat}
theorem pairs_al (hto:∀i k,i<=A.N->k<A.K->toN i k<=A.N/\st A (toN i k)=if i=A.N then -1 else A.to i k)
  (hof:∀i j,i<=A.N->j<=A.N->t i j=false->ext A (st A i) []=ext A (st A j) []) (hst:∀i j k,i<=A.N->j<=A.N->k<A.K->t i j=false->t (toN i k) (toN j k)=false):
  ∀(w:List Nat) (i j:Nat),Kd A w->i<=A.N->j<=A.N->t i j=false->ext A (st A i) w=ext A (st A j) w:=by
 intro w
 induction w with
 |nil=>intro i j _ a b h;exact hof i j a b h
 |cons k w ih=>
  intro i j f a b h;obtain⟨d,g⟩:=f.tail;have e:∀i,i<=A.N->ext A (st A i) (k::w)=ext A (st A (toN i k)) w:=λi a=>by
   rw[(hto i k a d).2];unfold st;by_cases c:i=A.N
   ·rw[if_pos c,if_pos c,ext_none _ _ (by omega),ext_none _ _ (by omega)]
   rw[if_neg c,if_neg c];simp only[ext,Int.toNat_natCast];rw[if_neg (by omega)]
  rw[e i a,e j b];exact ih _ _ g (hto i k a d).1 (hto j k b d).1 (hst i j k a b d h)
end Bm
namespace Bm
def fl (A:Aut) (t:Nat):Int:=A.to (t/A.K) (t%A.K)
def kn (A:Aut):Nat->Nat
 |0=>1
 |t+1=>if fl A t=(kn A t:Int) then kn A t+1 else kn A t
theorem kn_mono (A:Aut) {s t:Nat} (h:s<=t):kn A s<=kn A t:=by
 induction t with
 |zero=>
   have:s=0:=by omega
   subst this;exact Nat.le_refl _
 |succ t ih=>
  by_cases e:s=t+1
  ·subst e;exact Nat.le_refl _
  have:=ih (by omega);rw[kn];split<;>omega
theorem fl_at (A:Aut) {s k:Nat} (hk:k<A.K):fl A (s*A.K+k)=A.to s k:=by
 unfold fl;have a:0<A.K:=by omega
 rw[Nat.mul_comm,Nat.mul_add_div a,Nat.div_eq_of_lt hk,Nat.add_zero,Nat.mul_add_mod,Nat.mod_eq_of_lt hk]
structure Bfs (A:Aut):Prop where
 pos:0<A.N
 le:∀t,t<A.N*A.K->fl A t<=kn A t
 row:∀s,s<A.N->s<kn A (s*A.K)
 all:kn A (A.N*A.K)=A.N
variable {A : Aut}
theorem Bfs.lt (h:Bfs A) {t:Nat} (ht:t<A.N*A.K):fl A t<kn A (t+1):=by
 have a:=h.le t ht;rw[kn];split<;>omega
theorem kn_le (h:Bfs A) {t:Nat} (ht:t<=A.N*A.K):kn A t<=A.N:=by
 have:=kn_mono A ht;rw[h.all]at this;exact this
variable {k s : Nat}
theorem time_lt (hs:s<A.N) (hk:k<A.K):s*A.K+k<A.N*A.K:=by
 have:(s+1)*A.K<=A.N*A.K:=Nat.mul_le_mul_right _ hs;rw[Nat.add_mul]at this;omega
theorem step_rep (hB:Bfs A) {r k m:Nat} (hr:r<A.N) (hk:k<A.K) (hm:A.to r k=(m:Int)):
  (least (alB A) m<kn A (r*A.K+k)/\reps (alB A) (kn A (r*A.K+k+1))=reps (alB A) (kn A (r*A.K+k))) \/
  (least (alB A) m=m/\m=kn A (r*A.K+k)/\reps (alB A) (kn A (r*A.K+k+1))=reps (alB A) (kn A (r*A.K+k))++[m]):=by
 have f:=time_lt hr hk;have b:=fl_at A (s:=r) hk;have c:=hB.le _ f;have d:=least_le (alB A) m;rw[b,hm]at c;by_cases e:m=kn A (r*A.K+k)
 ·have a:kn A (r*A.K+k+1)=m+1:=by rw[kn,b,hm,if_pos (by omega)];omega
  rw[a,reps_succ,<-e];by_cases h:least (alB A) m=m
  ·rw[if_pos h];exact Or.inr ⟨h,rfl,rfl⟩
  rw[if_neg h,List.append_nil];exact Or.inl ⟨by omega,rfl⟩
 have a:kn A (r*A.K+k+1)=kn A (r*A.K+k):=by rw[kn,b,hm,if_neg (by omega)]
 rw[a];exact Or.inl ⟨by omega,rfl⟩
theorem step_none {r:Nat} (hk:k<A.K) (hm:A.to r k<0):kn A (r*A.K+k+1)=kn A (r*A.K+k):=by
 rw[kn,fl_at A hk,if_neg (by omega)]
theorem row_other (hA:A.Good) (hB:Bfs A) {q:Nat} (hq:q<A.N) (hn:least (alB A) q≠q):∀k,k<=A.K->reps (alB A) (kn A (q*A.K+k))=reps (alB A) (kn A (q*A.K)):=by
 intro k
 induction k with
 |zero=>intro _;rfl
 |succ k ih=>
  intro z;have a:k<A.K:=by omega
  have i:=alB_eqv A A.N;rw[<-ih (by omega),<-Nat.add_assoc];have n:=hA.rng q k hq a;rcases Int.lt_or_le (A.to q k) 0 with c|c
  ·rw[step_none a c]
  obtain⟨m,j⟩:=Int.eq_ofNat_of_zero_le c;rcases step_rep hB hq a j with h|⟨x,y,_⟩
  ·exact h.2
  exfalso;have u:=least_le (alB A) q;have o:Al A (least (alB A) q:Nat) q:=(alB_iff A _ _).1 (least_like i hq);generalize least (alB A) q=g at *;have d:g<q:=by omega
  have b:=o.to a;rw[j]at b;have v:=hA.rng g k (by omega) a;rcases Int.lt_or_le (A.to g k) 0 with f|f
  ·have:A.to g k=-1:=by omega
   rw[this]at b;exact hA.live m (by omega) b.symm
  obtain⟨p,l⟩:=Int.eq_ofNat_of_zero_le f;rw[l]at b;have w:=hB.lt (time_lt (show g<A.N by omega) a);rw[fl_at A a,l]at w;have e:=kn_mono A (s:=g*A.K+k+1) (t:=q*A.K+k) (by
   have:(g+1)*A.K<=q*A.K:=Nat.mul_le_mul_right _ d;rw[Nat.add_mul]at this;omega)
  have r:=least_of_like i (by omega) (show m<A.N by omega) ((alB_iff A p m).2 b);have:=least_le (alB A) p;omega
theorem rows_other (hA:A.Good) (hB:Bfs A) {a:Nat}:∀d,a+d<=A.N->(∀q,a<=q->q<a+d->least (alB A) q≠q)->reps (alB A) (kn A ((a+d)*A.K))=reps (alB A) (kn A (a*A.K))
 |0,_,_=>rfl
 |d+1,h,hn=>by
  rw[<-rows_other hA hB d (by omega) (λq b c=>hn q b (by omega)),<-row_other hA hB (show a+d<A.N by omega) (hn (a+d) (by omega) (by omega)) A.K (Nat.le_refl _),<-Nat.add_assoc,Nat.add_mul,Nat.one_mul]
theorem next_rep (hA:A.Good) (hB:Bfs A) {r i r':Nat} (hr:r<A.N) (h1:(reps (alB A) (kn A ((r+1)*A.K)))[i]?=some r) (h2:(reps (alB A) (kn A ((r+1)*A.K)))[i+1]?=some r'):
  r<r'/\r'<A.N/\least (alB A) r'=r'/\reps (alB A) (kn A ((r+1)*A.K))=reps (alB A) (kn A (r'*A.K)):=by
 obtain⟨j,d,k⟩:=reps_mem h1;obtain⟨l,e,m⟩:=reps_mem h2;have f:=kn_le hB (t:=(r+1)*A.K) (Nat.mul_le_mul_right _ hr);have b:r<r':=by
  rcases Nat.lt_or_ge r r' with h|h
  ·exact h
  have:=cnt_mono (alB A) h;omega
 refine⟨b,by omega,e,?_⟩;have c:=rows_other hA hB (a:=r+1) (r'-(r+1)) (by omega) (λq h1 h2 g=>by
  have c1:=cnt_lt d (show r<q by omega);have c2:=cnt_lt g (show q<r' by omega);omega)
 rw[show r+1+(r'-(r+1))=r' by omega]at c;exact c.symm
theorem last_rep (hA:A.Good) (hB:Bfs A) {r i:Nat} (hr:r<A.N) (h1:(reps (alB A) (kn A ((r+1)*A.K)))[i]?=some r) (h2:(reps (alB A) (kn A ((r+1)*A.K))).length=i+1):
  reps (alB A) (kn A ((r+1)*A.K))=reps (alB A) A.N:=by
 obtain⟨n,j,o⟩:=reps_mem h1;have f:∀d,r+1+d<=A.N->∀q,r+1<=q->q<r+1+d->least (alB A) q≠q:=by
  intro d
  induction d with
  |zero=>intro _ q b k;omega
  |succ d ih=>
   intro t q b k h;have c:=ih (by omega);by_cases e:q=r+1+d
   ·subst e;have l:=rows_other hA hB (a:=r+1) d (by omega) c;have m:=hB.row (r+1+d) (by omega);have g:=reps_get (alB A) _ _ m h;rw[l]at g;have p:=(List.getElem?_eq_some_iff.1 g).1;have s:=cnt_lt j (show r<r+1+d by omega);omega
   exact c q b (by omega) h
 have b:=rows_other hA hB (a:=r+1) (A.N-(r+1)) (by omega) (f _ (by omega));rw[show r+1+(A.N-(r+1))=A.N by omega,hB.all]at b;exact b.symm
end Bm
end Go.Proofs.YtoaaklhpmhjhkaaGreat
