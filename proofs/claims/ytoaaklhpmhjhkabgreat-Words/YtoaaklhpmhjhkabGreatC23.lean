import Derived.Test.YtoaaklhpmhjhkabGreatC22
set_option maxRecDepth 100000
set_option maxHeartbeats 4000000
set_option linter.all false
namespace Go.Proofs.YtoaaklhpmhjhkabGreat
section
open Go.RowKit
def MZ (w:List UInt8) (f:Nat->Bool):Prop:=
 (w=[46]/\∀b,b<256->f b=(b != 10)) \/
 (∃c v r0,w=c::r0/\c≠46/\c≠91/\c≠40/\(∀r,Rf.one (w++r)=some (v,w.length))/\∀b,b<256->f b=decide ((b:Int)=v)) \/
 (∃e,w=91::e/\∀r i,∃fa,Rf.set (e++r) i=some (i+(e.length+1),fa,f))
def Fh (w:List UInt8) (le:Int):Prop:=∃(x:UInt8) (r:List UInt8),w=123::x::r/\48<=(x.toNat:Int)/\(x.toNat:Int)<=57/\le=(x.toNat:Int)-48
theorem SB {v:Int} (b:Nat):Pg.withF (fun _=>false) v v b=decide ((b:Int)=v):=by
 unfold Pg.withF;by_cases h:(b:Int)=v
 ·simp[h]
 ·have:¬(v<=(b:Int)/\(b:Int)<=v):=by omega
  simp only[Bool.false_or,h,decide_false];rcases Int.lt_or_le (b:Int) v with h1|h1
  ·simp[show ¬v<=(b:Int) by omega]
  ·simp[show ¬(b:Int)<=v by omega]
theorem KS (s:ByteArray) (k n:Nat) (c:UInt8) (r:List UInt8) (hd:s.data.toList.drop k=c::r) (h1:Pg.kindOf (Y5 s k)=1) (hok:(Pg.readPart (Y5 s) s.size k 1).ok=true) (hn:(Pg.readPart (Y5 s) s.size k 1).n=((k+n:Nat):Int)) (_hn2:k+n<=s.size):
  MZ ((s.data.toList.drop k).take n) (Pg.readPart (Y5 s) s.size k 1).f:=by
 have hb:Y5 s (k:Int)=c.toNat:=by rw[UF hd];rfl
 by_cases e91:c=91
 ·subst e91;have hb':Y5 s (k:Int)=91:=hb;have hP:Pg.readPart (Y5 s) s.size k 1=⟨(Pg.readSet (Y5 s) s.size k).n,(Pg.readSet (Y5 s) s.size k).ok,(Pg.readSet (Y5 s) s.size k).f,0,(Pg.readSet (Y5 s) s.size k).fa⟩:=by
   rw[Pg.readPart,if_pos rfl,Pg.readPlace,if_pos hb']
  rw[hP]at hok hn ⊢;rcases Sz s k r 0 0 0 (Or.inl rfl) hd with ⟨m,F,FA,g1,g2,g3,g4,_⟩|⟨g1,_⟩
  ·rw[g3]at hn ⊢;simp only at hn ⊢;have hm:m=k+n:=by omega
   refine Or.inr (Or.inr ⟨r.take (n-1),?_,fun r' i'=>?_⟩)
   ·rw[hd,show n=(n-1)+1 by omega,List.take_succ_cons];rfl
   ·obtain⟨fa,h⟩:=PG g4 r' i';refine⟨fa,?_⟩;have hlen:r.length+1=s.size-k:=by
     have:(s.data.toList.drop k).length=s.size-k:=by simp
     rw[hd]at this;simpa using this
    rw[show m-k-1=n-1 by omega]at h;rw[h,List.length_take,show i'+(m-k)=i'+(min (n-1) r.length+1) by omega]
  ·rw[g1]at hok;cases hok
 by_cases e92:c=92
 ·subst e92;have hb':Y5 s (k:Int)=92:=hb;have hP:Pg.readPart (Y5 s) s.size k 1=⟨(Pg.readEscape (Y5 s) k).n,(Pg.readEscape (Y5 s) k).ok,Pg.withF (fun _=>false) (Pg.readEscape (Y5 s) k).v (Pg.readEscape (Y5 s) k).v,0,-1⟩:=by
   rw[Pg.readPart,if_pos rfl,Pg.readPlace,if_neg (by rw[hb'];decide),if_neg (by rw[hb'];decide),if_pos hb']
  rw[hP]at hok hn ⊢;rcases Uk s k r hd with ⟨m,v,g1,g3,g4,_⟩|⟨m,g1,_⟩
  ·rw[g1]at hn ⊢;simp only at hn ⊢;have hm:n=m+1:=by omega
   subst hm;refine Or.inr (Or.inl ⟨92,v,r.take m,by rw[hd,List.take_succ_cons],by decide,by decide,by decide,fun r'=>?_,fun b _=>SB b⟩);rw[hd];have:=Vr g3 r';rw[this];congr 2;simp;omega
  ·rw[g1]at hok;cases hok
 by_cases e46:c=46
 ·subst e46;have hb':Y5 s (k:Int)=46:=hb;have hP:Pg.readPart (Y5 s) s.size k 1=⟨(k:Int)+1,true,fun k=>!(Pg.withF (fun _=>false) 10 10 k),0,-1⟩:=by
   rw[Pg.readPart,if_pos rfl,Pg.readPlace,if_neg (by rw[hb'];decide),if_pos hb']
  rw[hP]at hn ⊢;simp only at hn ⊢;have hm:n=1:=by omega
  subst hm;refine Or.inl ⟨by rw[hd];rfl,fun b _=>?_⟩;show(!Pg.withF (fun _=>false) 10 10 b)=(b != 10);rw[SB];by_cases h:b=10
  ·subst h;rfl
  ·have:¬(b:Int)=10:=by omega
   simp[h,this]
 ·have n91:=YA e91;have n92:=YA e92;have n46:=YA e46;have hP:Pg.readPart (Y5 s) s.size k 1=⟨(k:Int)+1,true,Pg.withF (fun _=>false) (Y5 s k) (Y5 s k),0,-1⟩:=by
   rw[Pg.readPart,if_pos rfl,Pg.readPlace,if_neg (by rw[hb];exact n91),if_neg (by rw[hb];exact n46),if_neg (by rw[hb];exact n92)]
  rw[hP]at hn ⊢;simp only at hn ⊢;have hm:n=1:=by omega
  subst hm;have n40:c≠40:=fun e=>by
   subst e;rw[hb]at h1;exact absurd h1 (by decide)
  refine Or.inr (Or.inl ⟨c,c.toNat,[],by rw[hd];rfl,e46,e91,n40,fun r'=>?_,fun b _=>?_⟩)
  ·rw[hd];simp[Rf.one,e92]
  ·rw[hb];exact SB b
theorem IQ (s:ByteArray) (k n:Nat) (_c:UInt8) (_r:List UInt8) (hw:VR ((s.data.toList.drop k).take n) (Pg.readPart (Y5 s) s.size k 8).mo):Fh ((s.data.toList.drop k).take n) (Pg.digitValue (Y5 s ((k:Int)+1))):=by
 have key:∀(x:UInt8) (r':List UInt8),(s.data.toList.drop k).take n=123::x::r'->48<=(x.toNat:Int)->(x.toNat:Int)<=57->Fh ((s.data.toList.drop k).take n) (Pg.digitValue (Y5 s ((k:Int)+1))):=fun x r' he h1 h2=>by
  refine⟨x,r',he,h1,h2,?_⟩;have hx:(s.data.toList.drop k)[1]?=some x:=by
   have h3:((s.data.toList.drop k).take n)[1]?=some x:=by rw[he];rfl
   rw[List.getElem?_take]at h3;split at h3
   ·exact h3
   ·cases h3
  rw[M5 rfl,at_,hx];simp only;rw[Pg.digitValue,if_pos ⟨h1,h2⟩]
 rcases hw with ⟨x,he,h1,h2,_⟩|⟨x,z,he,h1,h2,_⟩
 ·exact key x _ he h1 h2
 ·exact key x _ he h1 h2
structure Tq where
 t:Tk
 f:Nat->Bool
 le:Int
def UX (q:Tq):Prop:=VS q.t/\(q.t.kd=1->MZ q.t.w q.f)/\(q.t.kd=8->Fh q.t.w q.le)
def Qs (s:ByteArray) (p:Pg.Pt) (q:Tq):Prop:=p.kd=q.t.kd/\p.mo=q.t.mo/\p.f=q.f/\(p.kd=8->Pg.digitValue (Y5 s (p.pl+1))=q.le)
inductive X9 {α β:Type} (R:α->β->Prop):List α->List β->Prop
 |nil:X9 R [] []
 |cons {a:α}{b:β}{l:List α}{m:List β} (h:R a b) (t:X9 R l m):X9 R (a::l) (b::m)
theorem Jv (s:ByteArray):∀(u k:Nat) (bf op:Int) (acc:List Pg.Pt),s.size<u+k->k<=s.size->(Pg.partsFrom (Y5 s) s.size u bf op k acc).ok=true ->
  ∃ps qs,(Pg.partsFrom (Y5 s) s.size u bf op k acc).ps=acc++ps/\Ye (qs.map Tq.t)=s.data.toList.drop k/\IG (qs.map Tq.t) bf op/\(∀q∈qs,UX q)/\X9 (Qs s) ps qs:=by
 intro u
 induction u with
 |zero=>intro k bf op acc h1 h2;omega
 |succ u ih=>
  intro k bf op acc hu hk hok;rcases hd:s.data.toList.drop k with _|⟨c,r⟩
  ·have hks:k=s.size:=by
    have:s.size<=k:=by simpa using hd
    omega
   have hge:¬(k:Int)<(s.size:Int):=by omega
   rw[Pg.partsFrom,if_neg hge]at hok ⊢;exact⟨[],[],by simp,rfl,by simpa[IG]using hok,by simp,X9.nil⟩
  ·have hlt:=XY hd;have hlti:(k:Int)<(s.size:Int):=by omega
   rw[Pg.partsFrom,if_pos hlti]at hok ⊢;cases hc:Pg.canStand (Pg.kindOf (Y5 s k)) bf op
   ·rw[hc]at hok;cases hok
   rw[hc]at hok;simp only[if_true]at hok ⊢;cases hp:(Pg.readPart (Y5 s) s.size k (Pg.kindOf (Y5 s k))).ok
   ·rw[hp]at hok;cases hok
   rw[hp]at hok;simp only[if_true]at hok ⊢;have h0:Pg.kindOf (Y5 s k)≠0:=by
    intro e;rw[e]at hc;simp[Pg.canStand]at hc
   obtain⟨n,n1,n2,n3,n4⟩:=GJ s k c r hd h0 hp;have hn3:=n3;rw[n3]at hok ⊢;obtain⟨ps,qs,g1,g2,g3,g4,g5⟩:=ih (k+n) _ _ _ (by omega) n2 hok;refine⟨_::ps,⟨⟨(s.data.toList.drop k).take n,Pg.kindOf (Y5 s k),(Pg.readPart (Y5 s) s.size k (Pg.kindOf (Y5 s k))).mo⟩,(Pg.readPart (Y5 s) s.size k (Pg.kindOf (Y5 s k))).f,Pg.digitValue (Y5 s ((k:Int)+1))⟩::qs,by rw[g1,List.append_assoc];rfl,?_,⟨n4,hc,g3⟩,?_,X9.cons ⟨rfl,rfl,rfl,fun _=>rfl⟩ g5⟩
   ·rw[List.map_cons,Yd,g2,<-hd,<-YW,List.take_append_drop]
   ·intro q hq;rcases List.mem_cons.1 hq with rfl|h
    ·refine⟨n4,fun h1=>?_,fun h8=>?_⟩
     ·simp only at h1 ⊢;rw[h1]at hp hn3 ⊢;exact KS s k n c r hd h1 hp hn3 n2
     ·simp only at h8 ⊢;have hw:=(Pz n4 h8).2;simp only at hw;rw[h8]at hw;exact IQ s k n c r hw
    ·exact g4 q h
def Pp:Nat->Nat->List Tq->Rx->Prop
 |0,_,_,_=>False
 |f+1,0,ts,e=>(∃q,ts=[q]/\UX q/\q.t.kd=1/\e=.lit q.f) \/
   (∃a inn b e0,ts=a::(inn++[b])/\UX a/\a.t.kd=2/\UX b/\b.t.kd=3/\Pp f 2 inn e0/\e=e0.nz) \/
   (∃q t e0,ts=q++[t]/\Pp f 0 q e0/\UX t/\Ym t.t/\e=(Rx.suf t.t.kd t.le.toNat t.t.mo.toNat e0).nz)
 |f+1,1,ts,e=>∃L:List (List Tq × Rx),ts=(L.map (·.1)).flatten/\(∀x∈L,Pp f 0 x.1 x.2)/\e=Rx.rowOf (L.map (·.2))
 |f+1,_,ts,e=>Pp f 1 ts e\/∃r b q e1 e2,ts=r++b::q/\UX b/\b.t.kd=4/\Pp f 1 r e1/\Pp f 2 q e2/\e=.alt e1 e2
theorem SL:∀(f k:Nat) (ts:List Tq) (e:Rx),Pp f k ts e->Pp (f+1) k ts e:=by
 intro f
 induction f with
 |zero=>intro k ts e h;exact absurd h (by simp[Pp])
 |succ f ih=>
  intro k ts e h;rcases k with _|_|k
  ·unfold Pp at h ⊢;rcases h with h|⟨a,inn,b,e0,h1,h2,h3,h4,h5,h6,h7⟩|⟨q,t,e0,h1,h2,h3⟩
   ·exact Or.inl h
   ·exact Or.inr (Or.inl ⟨a,inn,b,e0,h1,h2,h3,h4,h5,ih _ _ _ h6,h7⟩)
   ·exact Or.inr (Or.inr ⟨q,t,e0,h1,ih _ _ _ h2,h3⟩)
  ·unfold Pp at h ⊢;obtain⟨L,h1,h2,h3⟩:=h;exact⟨L,h1,fun x hx=>ih _ _ _ (h2 x hx),h3⟩
  ·unfold Pp at h ⊢;rcases h with h|⟨r,b,q,e1,e2,h1,h2,h3,h4,h5,h6⟩
   ·exact Or.inl (ih _ _ _ h)
   ·exact Or.inr ⟨r,b,q,e1,e2,h1,h2,h3,ih _ _ _ h4,ih _ _ _ h5,h6⟩
variable {s:ByteArray}{kd:Int}{ts:List Tq}{g k n:Nat}{e:Rx}
theorem Ou {f:Nat} (h:Pp f k ts e) (hfg:f<=g):Pp g k ts e:=by
 induction g with
 |zero=>
   have:f=0:=by omega
   subst this;exact h
 |succ g ih=>
  by_cases e:f=g+1
  ·subst e;exact h
  ·exact SL _ _ _ _ (ih (by omega))
variable {e2:Rx}
theorem IE {f:Nat}{p r:List Tq}{e1:Rx} (h1:Pp f 0 p e1) (h2:Pp f 2 r e2):∃e,Pp (f+2) 2 (p++r) e:=by
 have row:∀(f:Nat) (r:List Tq) (e2:Rx),Pp f 0 p e1->Pp f 1 r e2->∃e,Pp (f+1) 1 (p++r) e:=fun f r e2 h1 h2=>by
  rcases f with _|f
  ·exact absurd h1 (by simp[Pp])
  obtain⟨L,g1,g2,_⟩:=h2;refine⟨_,(p,e1)::L,by rw[g1];simp,fun x hx=>?_,rfl⟩;rcases List.mem_cons.1 hx with rfl|hx
  ·exact h1
  ·exact SL _ _ _ _ (g2 x hx)
 rcases f with _|f
 ·exact absurd h1 (by simp[Pp])
 rcases h2 with h|⟨r1,b,q,e3,e4,k1,k2,k3,k4,k5,_⟩
 ·obtain⟨e,he⟩:=row (f+1) r e2 h1 (SL _ _ _ _ h);exact⟨e,Or.inl he⟩
 ·obtain⟨e,he⟩:=row (f+1) r1 e3 h1 (SL _ _ _ _ k4);exact⟨_,Or.inr ⟨p++r1,b,q,e,e4,by rw[k1];simp,k2,k3,he,Ou k5 (by omega),rfl⟩⟩
theorem Vp {a b:List Tk} (h:ts.map Tq.t=a++b):∃x y,ts=x++y/\x.map Tq.t=a/\y.map Tq.t=b:=by
 refine⟨ts.take a.length,ts.drop a.length,(List.take_append_drop _ _).symm,?_,?_⟩
 ·rw[List.map_take,h,List.take_left'];rfl
 ·rw[List.map_drop,h,List.drop_left'];rfl
theorem IF:∀(f:Nat) (g:Bool) (ts:List Tq) (V:Int),(∀q∈ts,UX q)->Is f g (ts.map Tq.t) V->∃F e,Pp F (if g then 2 else 0) ts e:=by
 intro f
 induction f with
 |zero=>intro g ts V _ h;exact absurd h (by simp[Is])
 |succ f ih=>
  intro g ts V hq h;cases g
  ·unfold Is at h;rcases h with ⟨t,h1,h2,h3,_⟩|⟨a,inn,b,h1,h2,h3,h4,h5,h6⟩|⟨q,t,A,h1,h2,h3,h4,_⟩
   ·rcases ts with _|⟨q,_|⟨q2,ts⟩⟩
    ·simp at h1
    ·simp at h1;exact⟨1,.lit q.f,Or.inl ⟨q,rfl,hq q (by simp),by rw[h1];exact h3,rfl⟩⟩
    ·simp at h1
   ·obtain⟨x,y,e1,e2,e3⟩:=Vp (a:=[a]) (b:=inn++[b]) (by rw[h1];rfl);obtain⟨y1,y2,e4,e5,e6⟩:=Vp e3;rcases x with _|⟨x,_|⟨x2,xs⟩⟩
    ·simp at e2
    rotate_left
    ·simp at e2
    rcases y2 with _|⟨z,_|⟨z2,zs⟩⟩
    ·simp at e6
    rotate_left
    ·simp at e6
    simp at e2 e6;obtain⟨F,e,hP⟩:=ih true y1 V (fun q hx=>hq q (by rw[e1,e4];simp[hx])) (by rw[e5];exact h6);exact⟨F+1,e.nz,Or.inr (Or.inl ⟨x,y1,z,e,by rw[e1,e4];rfl,hq x (by rw[e1];simp),by rw[e2];exact h3,hq z (by rw[e1,e4];simp),by rw[e6];exact h5,hP,rfl⟩)⟩
   ·obtain⟨x,y,e1,e2,e3⟩:=Vp h1;rcases y with _|⟨z,_|⟨z2,zs⟩⟩
    ·simp at e3
    rotate_left
    ·simp at e3
    simp at e3;obtain⟨F,e,hP⟩:=ih false x A (fun q hx=>hq q (by rw[e1];simp[hx])) (by rw[e2];exact h2);exact⟨F+1,_,Or.inr (Or.inr ⟨x,z,e,e1,hP,hq z (by rw[e1];simp),by rw[e3];exact h4,rfl⟩)⟩
  ·unfold Is at h;rcases h with ⟨h1,_⟩|⟨t,r,h1,h2,h3,h4⟩|⟨p,r,A,B,h1,h2,h3,_,_⟩
   ·have:ts=[]:=by simpa using h1
    subst this;exact⟨2,Rx.rowOf [],Or.inl ⟨[],rfl,by simp,rfl⟩⟩
   ·obtain⟨x,y,e1,e2,e3⟩:=Vp (a:=[t]) (b:=r) (by rw[h1];rfl);rcases x with _|⟨x,_|⟨x2,xs⟩⟩
    ·simp at e2
    rotate_left
    ·simp at e2
    simp at e2;obtain⟨F,e,hP⟩:=ih true y V (fun q hx=>hq q (by rw[e1];simp[hx])) (by rw[e3];exact h4);exact⟨F+2,_,Or.inr ⟨[],x,y,Rx.rowOf [],e,by rw[e1];rfl,hq x (by rw[e1];simp),by rw[e2];exact h3,⟨[],rfl,by simp,rfl⟩,SL _ _ _ _ hP,rfl⟩⟩
   ·obtain⟨x,y,e1,e2,e3⟩:=Vp h1;obtain⟨F1,f1,hP1⟩:=ih false x A (fun q hx=>hq q (by rw[e1];simp[hx])) (by rw[e2];exact h2);obtain⟨F2,f2,hP2⟩:=ih true y B (fun q hx=>hq q (by rw[e1];simp[hx])) (by rw[e3];exact h3);obtain⟨e,he⟩:=IE (Ou hP1 (Nat.le_max_left F1 F2)) (Ou hP2 (Nat.le_max_right F1 F2));exact⟨_,e,by rw[e1];exact he⟩
theorem KZ (s:ByteArray) (h:(Pg.readParts (Y5 s) s.size).ok=true):∃qs f e,Ye (qs.map Tq.t)=s.data.toList/\(∀q∈qs,UX q)/\X9 (Qs s) (Pg.readParts (Y5 s) s.size).ps qs/\Pp f 2 qs e:=by
 unfold Pg.readParts at h ⊢;obtain⟨ps,qs,h1,h2,h3,h4,h5⟩:=Jv s ((s.size:Int).toNat+1) 0 0 0 [] (by omega) (by omega) h;have hns:∀t r,qs.map Tq.t=t::r->¬Ym t:=by
  intro t r e hs;rw[e]at h3;have:=h3.2.1;unfold Ym at hs;simp[Pg.canStand,Pg.endsPiece,Pg.isSuffix]at this;rcases hs with h|h|h|h<;>simp[h]at this
 obtain⟨f,inn,rest,V,g1,g2,g3⟩:=GH (qs.map Tq.t).length (qs.map Tq.t) 0 0 (Nat.le_refl _) (Int.le_refl _) h3 hns;have hrest:rest=[]:=by
  rcases g3 with ⟨h,_⟩|⟨b,r,_,_,_,h,_⟩
  ·exact h
  ·omega
 rw[hrest,List.append_nil]at g1;obtain⟨F,e,hP⟩:=IF f true qs V h4 (by rw[g1];exact g2);have h1':(Pg.partsFrom (Y5 s) (s.size:Int) ((s.size:Int).toNat+1) 0 0 0 []).ps=ps:=by
  have:=h1;rw[List.nil_append]at this;exact this
 refine⟨qs,F,e,by rw[h2];rfl,h4,?_,hP⟩;rw[h1'];exact h5
theorem Gz {t:Tk} (h3:VS t) (h4:Ym t) (le:Nat) (e0:Rx):((Rx.suf t.kd le t.mo.toNat e0).sz:Int)=if t.kd=8 then (e0.sz:Int)*t.mo else e0.sz:=by
 unfold Rx.suf;unfold Ym at h4;by_cases h8:t.kd=8
 ·rw[if_neg (by omega),if_neg (by omega),if_neg (by omega),if_pos h8,Rx.copies_sz];have:=(Pz h3 h8).1;rw[Int.natCast_mul,Int.mul_comm,Int.toNat_of_nonneg this]
 ·rw[if_neg h8];by_cases h5:t.kd=5
  ·rw[if_pos h5];rfl
  ·rw[if_neg h5];by_cases h6:t.kd=6
   ·rw[if_pos h6];rfl
   ·rw[if_neg h6,if_pos (by omega)];rfl
theorem Qn:∀(f k:Nat) (ts:List Tq) (e:Rx),Pp f k ts e->(∀q∈ts,UX q)/\∃F,(k=0->Is F false (ts.map Tq.t) e.sz/\∃q r,ts=q::r/\(q.t.kd=1\/q.t.kd=2))/\(k=1->∀G r V,Is G true r V->(∀t r',r=t::r'->¬Ym t)->∃F',Is F' true (ts.map Tq.t++r) (e.sz+V))/\(2<=k->Is F true (ts.map Tq.t) e.sz):=by
 intro f
 induction f with
 |zero=>intro k ts e h;exact absurd h (by simp[Pp])
 |succ f ih=>
  intro k ts e h;rcases k with _|_|k
  ·unfold Pp at h;rcases h with ⟨q,rfl,h2,h3,rfl⟩|⟨a,inn,b,e0,rfl,h2,h3,h4,h5,h6,rfl⟩|⟨q,t,e0,rfl,h2,h3,h4,rfl⟩
   ·exact⟨by simpa using h2,1,fun _=>⟨Or.inl ⟨q.t,rfl,h2.1,h3,rfl⟩,q,[],rfl,Or.inl h3⟩,(fun h=>by omega),fun h=>by omega⟩
   ·obtain⟨k1,F,_,_,k3⟩:=ih 2 inn e0 h6;refine⟨fun q hq=>?_,F+1,fun _=>⟨Or.inr (Or.inl ⟨a.t,inn.map Tq.t,b.t,by simp,h2.1,h3,h4.1,h5,by rw[Rx.nz_sz];exact k3 (by omega)⟩),a,_,rfl,Or.inr h3⟩,(fun h=>by omega),fun h=>by omega⟩;simp only[List.mem_cons,List.mem_append,List.not_mem_nil,or_false]at hq;rcases hq with rfl|hq|rfl
    ·exact h2
    ·exact k1 q hq
    ·exact h4
   ·obtain⟨k1,F,k2,_,_⟩:=ih 0 q e0 h2;obtain⟨k2,q0,r0,k4,k5⟩:=k2 rfl;refine⟨fun x hx=>?_,F+1,fun _=>⟨Or.inr (Or.inr ⟨q.map Tq.t,t.t,_,by simp,k2,h3.1,h4,?_⟩),q0,r0++[t],by rw[k4];rfl,k5⟩,(fun h=>by omega),fun h=>by omega⟩
    ·rcases List.mem_append.1 hx with h|h
     ·exact k1 x h
     ·rw[List.mem_singleton.1 h];exact h3
    ·rw[Rx.nz_sz];exact Gz h3.1 h4 _ _
  ·unfold Pp at h;obtain⟨L,rfl,h2,rfl⟩:=h;refine⟨fun q hq=>?_,0,(fun h=>by omega),fun _=>?_,fun h=>by omega⟩
   ·obtain⟨l,hl,hql⟩:=List.mem_flatten.1 hq;obtain⟨x,hx,rfl⟩:=List.mem_map.1 hl;exact(ih 0 x.1 x.2 (h2 x hx)).1 q hql
   ·intro G r V hG hns
    induction L with
    |nil=>exact⟨G,by simpa[Rx.rowOf,Rx.sz]using hG⟩
    |cons x L ihL=>
     obtain⟨F',hF'⟩:=ihL (fun y hy=>h2 y (by simp[hy]));obtain⟨_,F1,k2,_,_⟩:=ih 0 x.1 x.2 (h2 x (by simp));obtain⟨k2,_⟩:=k2 rfl;refine⟨max F1 F'+1,?_⟩;rw[Rx.rowOf_sz];rw[Rx.rowOf_sz]at hF';refine Or.inr (Or.inr ⟨x.1.map Tq.t,_,_,_,?_,SJ k2 (Nat.le_max_left _ _),SJ hF' (Nat.le_max_right _ _),?_,?_⟩)
     ·simp
     ·simp;omega
     ·intro t r' he;rcases L with _|⟨y,L⟩
      ·exact hns t r' (by simpa using he)
      ·obtain⟨_,_,k3,_,_⟩:=ih 0 y.1 y.2 (h2 y (by simp));obtain⟨_,q,r2,k4,k5⟩:=k3 rfl;have:q.t=t:=by
        rw[List.map_cons,List.flatten_cons]at he;rw[show(y.1)=q::r2 from k4]at he;simp at he;exact he.1
       rw[<-this];unfold Ym;omega
  ·unfold Pp at h;rcases h with h|⟨r,b,q,e1,e2,rfl,h2,h3,h4,h5,rfl⟩
   ·obtain⟨k1,F,_,k2,_⟩:=ih 1 ts e h;obtain⟨F',hF⟩:=k2 rfl 1 [] 0 (Or.inl ⟨rfl,rfl⟩) (by simp);exact⟨k1,F',(fun h=>by omega),(fun h=>by omega),fun _=>by simpa using hF⟩
   ·obtain⟨k1,F,_,k2,_⟩:=ih 1 r e1 h4;obtain⟨k3,F2,_,_,k4⟩:=ih 2 q e2 h5;have hb:Is (F2+1) true (b.t::q.map Tq.t) e2.sz:=Or.inr (Or.inl ⟨b.t,_,rfl,h2.1,h3,k4 (by omega)⟩);obtain⟨F',hF⟩:=k2 rfl _ _ _ hb (by
     intro t r' he;cases he;unfold Ym;omega)
    refine⟨fun x hx=>?_,F',(fun h=>by omega),(fun h=>by omega),fun _=>?_⟩
    ·simp only[List.mem_append,List.mem_cons]at hx;rcases hx with h|rfl|h
     ·exact k1 x h
     ·exact h2
     ·exact k3 x h
    ·have:((Rx.alt e1 e2).sz:Int)=(e1.sz:Int)+(e2.sz:Int):=by simp[Rx.sz]
     rw[this,List.map_append,List.map_cons];exact hF
def RK:List Int->Int->Nat->Nat
 |[],_,i=>i
 |k::ks,op,i=>if k=4/\op=0 then i else RK ks (op+Pg.opn k) (i+1)
def VE:List Int->Int->Nat->Nat
 |[],_,i=>i
 |k::ks,op,i=>if op+Pg.opn k=0 then i+1 else VE ks (op+Pg.opn k) (i+1)
def kds (ts:List Tq):List Int:=ts.map fun q=>q.t.kd
theorem VW (a b:List Tq):kds (a++b)=kds a++kds b:=by simp[kds]
theorem Ry (a:List Tq):(kds a).length=a.length:=by simp[kds]
theorem Ig {k:Int} (h:k=5\/k=6\/k=7\/k=8):Pg.opn k=0:=by unfold Pg.opn;rw[if_neg (by omega),if_neg (by omega)]
theorem Nf:∀(f k:Nat) (ts:List Tq) (e:Rx),Pp f k ts e ->
  (∀(op:Int) (i:Nat) (rest:List Int),1<=op->VE (kds ts++rest) op i=VE rest op (i+ts.length)) /\
  (∀(op:Int) (i:Nat) (rest:List Int),1<=op\/(op=0/\k<=1)->RK (kds ts++rest) op i=RK rest op (i+ts.length)) /\
  (k=0->∃m,1<=m/\m<=ts.length/\(∀i rest,VE (kds ts++rest) 0 i=i+m)/\∀q∈ts.drop m,Ym q.t):=by
 intro f
 induction f with
 |zero=>intro k ts e h;exact absurd h (by simp[Pp])
 |succ f ih=>
  intro k ts e h;rcases k with _|_|k
  ·unfold Pp at h;rcases h with ⟨q,rfl,h2,h3,rfl⟩|⟨a,inn,b,e0,rfl,h2,h3,h4,h5,h6,rfl⟩|⟨q,t,e0,rfl,h2,h3,h4,rfl⟩
   ·have ho:Pg.opn q.t.kd=0:=by rw[h3];rfl
    refine⟨fun op i rest hop=>?_,fun op i rest hop=>?_,fun _=>⟨1,by omega,by simp,fun i rest=>?_,by simp⟩⟩
    ·simp only[kds,List.map_cons,List.map_nil,List.cons_append,List.nil_append,VE,ho,Int.add_zero];rw[if_neg (by omega)];rfl
    ·simp only[kds,List.map_cons,List.map_nil,List.cons_append,List.nil_append,RK,ho,Int.add_zero];rw[if_neg (by omega)];rfl
    ·simp[kds,VE,ho]
   ·obtain⟨i1,i2,_⟩:=ih 2 inn e0 h6;have ha:Pg.opn a.t.kd=1:=by rw[h3];rfl
    have hb:Pg.opn b.t.kd=-1:=by rw[h5];rfl
    have hk:kds (a::(inn++[b]))=a.t.kd::(kds inn++[b.t.kd]):=by simp[kds]
    have hl:(a::(inn++[b])).length=inn.length+2:=by simp
    refine⟨fun op i rest hop=>?_,fun op i rest hop=>?_,fun _=>⟨inn.length+2,by omega,by simp,fun i rest=>?_,fun q hq=>?_⟩⟩
    ·rw[hk,List.cons_append,VE,ha,if_neg (by omega),List.append_assoc,i1 _ _ _ (by omega),List.singleton_append,VE,hb,if_neg (by omega),hl];congr 1<;>omega
    ·rw[hk,List.cons_append,RK,ha,if_neg (by omega),List.append_assoc,i2 _ _ _ (Or.inl (by omega)),List.singleton_append,RK,hb,if_neg (by omega),hl];congr 1<;>omega
    ·rw[hk,List.cons_append,VE,ha,if_neg (by omega),List.append_assoc,i1 _ _ _ (by omega),List.singleton_append,VE,hb,if_pos (by omega)];omega
    ·rw[List.drop_of_length_le (by rw[hl];omega)]at hq;cases hq
   ·obtain⟨i1,i2,i3⟩:=ih 0 q e0 h2;obtain⟨m,m1,m2,m3,m4⟩:=i3 rfl;have ho:Pg.opn t.t.kd=0:=Ig (by unfold Ym at h4;omega);have h4':t.t.kd≠4:=by unfold Ym at h4;omega
    have hk:kds (q++[t])=kds q++[t.t.kd]:=by simp[kds]
    have hl:(q++[t]).length=q.length+1:=by simp
    refine⟨fun op i rest hop=>?_,fun op i rest hop=>?_,fun _=>⟨m,m1,by omega,fun i rest=>?_,fun x hx=>?_⟩⟩
    ·rw[hk,List.append_assoc,i1 _ _ _ hop,List.singleton_append,VE,ho,if_neg (by omega),hl];congr 1;omega
    ·rw[hk,List.append_assoc,i2 _ _ _ hop,List.singleton_append,RK,ho,if_neg (by omega),hl];congr 1;omega
    ·rw[hk,List.append_assoc];exact m3 _ _
    ·rw[List.drop_append_of_le_length m2]at hx;rcases List.mem_append.1 hx with h|h
     ·exact m4 x h
     ·rw[List.mem_singleton.1 h];exact h4
  ·unfold Pp at h;obtain⟨L,rfl,h2,rfl⟩:=h;refine⟨fun op i rest hop=>?_,fun op i rest hop=>?_,fun h=>by omega⟩
   ·induction L generalizing i with
    |nil=>simp[kds]
    |cons x L ihL=>
     obtain⟨i1,_,_⟩:=ih 0 x.1 x.2 (h2 x (by simp));have:=ihL (fun y hy=>h2 y (by simp[hy])) (i+x.1.length);rw[List.map_cons,List.flatten_cons,VW,List.append_assoc,i1 _ _ _ hop,this,List.length_append];congr 1;omega
   ·induction L generalizing i with
    |nil=>simp[kds]
    |cons x L ihL=>
     obtain⟨_,i2,_⟩:=ih 0 x.1 x.2 (h2 x (by simp));have:=ihL (fun y hy=>h2 y (by simp[hy])) (i+x.1.length);rw[List.map_cons,List.flatten_cons,VW,List.append_assoc,i2 _ _ _ (by omega),this,List.length_append];congr 1;omega
  ·unfold Pp at h;rcases h with h|⟨r,b,q,e1,e2,rfl,h2,h3,h4,h5,rfl⟩
   ·obtain⟨i1,i2,_⟩:=ih 1 ts e h;exact⟨i1,fun op i rest hop=>i2 op i rest (by omega),fun h=>by omega⟩
   ·obtain⟨i1,i2,_⟩:=ih 1 r e1 h4;obtain⟨j1,j2,_⟩:=ih 2 q e2 h5;have ho:Pg.opn b.t.kd=0:=by rw[h3];rfl
    have hk:kds (r++b::q)=kds r++(b.t.kd::kds q):=by simp[kds]
    have hl:(r++b::q).length=r.length+1+q.length:=by simp;omega
    refine⟨fun op i rest hop=>?_,fun op i rest hop=>?_,fun h=>by omega⟩
    ·rw[hk,List.append_assoc,i1 _ _ _ hop,List.cons_append,VE,ho,if_neg (by omega),Int.add_zero,j1 _ _ _ hop,hl];congr 1;omega
    ·rw[hk,List.append_assoc,i2 _ _ _ (by omega),List.cons_append,RK,ho,if_neg (by omega),Int.add_zero,j2 _ _ _ (by omega),hl];congr 1;omega
def Sm (p:Pg.Pt) (q:Tq):Prop:=p.kd=q.t.kd/\p.mo=q.t.mo/\p.f=q.f/\(p.kd=8->p.le=q.le)
theorem X9.len {α β:Type}{R:α->β->Prop}{l:List α}{m:List β} (h:X9 R l m):l.length=m.length:=by
 induction h with
 |nil=>rfl
 |cons h t ih=>simp[ih]
theorem X9.split {α β:Type}{R:α->β->Prop}:∀(a:List β) (b:List β) (l:List α),X9 R l (a++b)->X9 R (l.take a.length) a/\X9 R (l.drop a.length) b
 |[],b,l,h=>⟨by simpa using X9.nil,by simpa using h⟩
 |x::a,b,l,h=>by
  cases h with
  |cons h t=>
   obtain⟨h1,h2⟩:=X9.split a b _ t;exact⟨by simpa using X9.cons h h1,by simpa using h2⟩
theorem X9.kds {ps:List Pg.Pt}{ts:List Tq} (h:X9 Sm ps ts):ps.map (fun p=>p.kd)=kds ts:=by
 induction h with
 |nil=>rfl
 |cons h t ih=>
  simp only[List.map_cons,ih,Go.Proofs.YtoaaklhpmhjhkabGreat.kds];rw[h.1]
theorem X9.two {ps:List Pg.Pt} (h:X9 Sm ps ts):ps.map (fun p=>(p.kd,p.mo))=(ts.map Tq.t).map (fun t=>(t.kd,t.mo)):=by
 induction h with
 |nil=>rfl
 |cons h t ih=>simp only[List.map_cons,ih];rw[h.1,h.2.1]
theorem Nd {f:Nat}{ps:List Pg.Pt} (h:Pp f 0 ts e) (hb:X9 Sm ps ts):Pg.countPlaces ps=Pg.capped e.sz:=by
 obtain⟨_,F,k2,_,_⟩:=Qn f 0 ts e h;obtain⟨hI,_⟩:=k2 rfl;obtain⟨hV,hF,_⟩:=machine F false (ts.map Tq.t) e.sz hI;have e1:=hF rfl ⟨0,0,[]⟩ (by simp) (by simp);rw[Pg.countPlaces,TF ps ((ts.map Tq.t).map Wj) (by rw[hb.two];simp[Wj]),e1];simp only;have h0:Pg.capped (0+0)=0:=rfl;have h1:=U7 (a:=(e.sz:Int)) (b:=0) hV (by omega);rw[h0,show(0:Int)+Pg.capped (e.sz:Int)=Pg.capped (e.sz:Int)+0 by omega,h1];simp
theorem M7:Pg.capped (n:Int)=0<->n=0:=by rw[WG];split<;>omega
theorem Ob (s:ByteArray) (h:(Pg.readParts (Y5 s) s.size).ok=true):∃e qs f,Ye (qs.map Tq.t)=s.data.toList/\(∀q∈qs,UX q)/\X9 (Qs s) (Pg.readParts (Y5 s) s.size).ps qs/\Pp f 2 qs e:=by
 obtain⟨qs,f,e,h1,h2,h3,h4⟩:=KZ s h;exact⟨e,qs,f,h1,h2,h3,h4⟩
open Classical in
noncomputable def WY (s:ByteArray):Rx:=if h:(Pg.readParts (Y5 s) s.size).ok=true then Classical.choose (Ob s h) else .eps
theorem Us (s:ByteArray) (h:(Pg.readParts (Y5 s) s.size).ok=true):∃qs f,Ye (qs.map Tq.t)=s.data.toList/\(∀q∈qs,UX q)/\X9 (Qs s) (Pg.readParts (Y5 s) s.size).ps qs/\Pp f 2 qs (WY s):=by
 have:=Classical.choose_spec (Ob s h);unfold WY;rw[dif_pos h];exact this
theorem X9.twoP {ps:List Pg.Pt} (h:X9 (Qs s) ps ts):ps.map (fun p=>(p.kd,p.mo))=(ts.map Tq.t).map (fun t=>(t.kd,t.mo)):=by
 induction h with
 |nil=>rfl
 |cons h t ih=>simp only[List.map_cons,ih];rw[h.1,h.2.1]
theorem PM {f:Nat}{ps:List Pg.Pt} (h:Pp f 2 ts e) (hb:ps.map (fun p=>(p.kd,p.mo))=(ts.map Tq.t).map (fun t=>(t.kd,t.mo))):Pg.countPlaces ps=Pg.capped e.sz:=by
 obtain⟨_,F,_,_,k2⟩:=Qn f 2 ts e h;have hI:=k2 (Nat.le_refl _);obtain⟨hV,_,hT⟩:=machine F true (ts.map Tq.t) e.sz hI;obtain⟨ah,la,e1,_,_,e4⟩:=hT rfl ⟨0,0,[]⟩ (by simp) (by simp);rw[Pg.countPlaces,TF ps ((ts.map Tq.t).map Wj) (by rw[hb];simp[Wj]),e1];simp only;rw[e4];simp
theorem Ur (s:ByteArray) (h:(Pg.readParts (Y5 s) s.size).ok=true):Pg.countPlaces (Pg.readParts (Y5 s) s.size).ps=Pg.capped (WY s).sz:=by
 obtain⟨qs,f,_,_,h3,h4⟩:=Us s h;exact PM h4 h3.twoP
def YV (es:Nat->Rx):Nat->Nat
 |0=>0
 |k+1=>YV es k+(es k).sz
theorem X1 (es:Nat->Rx) {a b:Nat} (h:a<=b):YV es a<=YV es b:=by
 induction b with
 |zero=>
   have:a=0:=by omega
   subst this;exact Nat.le_refl _
 |succ b ih=>
  by_cases e:a=b+1
  ·subst e;exact Nat.le_refl _
  ·have:=ih (by omega);simp only[YV];omega
theorem RB (es:Nat->Rx) (u:Nat->Int):∀n,(∀i,i<n->u i=Pg.capped (es i).sz)->¬96<X8 u n->X8 u n=(YV es n:Int)/\YV es n<=96:=by
 intro n hu hs;have h2:=(LS (u:=u) (v:=fun i=>((es i).sz:Int)) n (fun i hi=>⟨by omega,hu i hi⟩));have h3:∀m,X8 (fun i=>((es i).sz:Int)) m=(YV es m:Int):=by
  intro m
  induction m with
  |zero=>rfl
  |succ m ih=>simp only[X8,YV,ih];omega
 rw[h3]at h2;have h4:¬96<(YV es n:Int):=fun h=>hs (h2.1.2 h)
 have h5:=h2.2 h4;exact⟨h5,by omega⟩
end
section
open Go.RowKit
namespace Rx
theorem nul_or_fst:∀(e:Rx) (o:Nat),e.nul=true\/∃p,e.fst o p=true
 |eps,_=>Or.inl rfl
 |lit _,o=>Or.inr ⟨o,by simp[fst]⟩
 |cat a b,o=>by
  rcases nul_or_fst a o with h|⟨p,h⟩
  ·rcases nul_or_fst b (o+a.sz)with k|⟨p,k⟩
   ·exact Or.inl (by simp[nul,h,k])
   ·exact Or.inr ⟨p,by simp[fst,h,k]⟩
  ·exact Or.inr ⟨p,by simp[fst,h]⟩
 |alt a b,o=>by
  rcases nul_or_fst a o with h|⟨p,h⟩
  ·exact Or.inl (by simp[nul,h])
  ·exact Or.inr ⟨p,by simp[fst,h]⟩
 |star _,_=>Or.inl rfl
 |plus a,o=>nul_or_fst a o
 |opt _,_=>Or.inl rfl
inductive Rch (e:Rx) (o:Nat):Nat->Prop
 |last {p:Nat} (h:e.lst o p=true):Rch e o p
 |next {p q:Nat} (h:e.fol o p q=true) (k:Rch e o q):Rch e o p
theorem rch_any:∀(e:Rx) (o p:Nat),o<=p->p<o+e.sz->Rch e o p
 |eps,o,p,h1,h2=>by simp[sz]at h2;omega
 |lit _,o,p,h1,h2=>.last (by simp[sz]at h2;simp[lst];omega)
 |cat a b,o,p,h1,h2=>by
  have hb:∀q,Rch b (o+a.sz) q->Rch (cat a b) o q:=fun q h=>by
   induction h with
   |last h=>exact .last (by simp[lst,h])
   |next h k ih=>exact .next (by simp[fol,h]) ih
  have ha:∀q,Rch a o q->Rch (cat a b) o q:=fun q h=>by
   induction h with
   |last h=>
    rcases nul_or_fst b (o+a.sz)with k|⟨x,k⟩
    ·exact .last (by simp[lst,h,k])
    ·have hx:=fst_rng b _ x k;exact .next (q:=x) (by simp[fol,h,k]) (hb x (rch_any b _ x hx.1 hx.2))
   |next h k ih=>exact .next (by simp[fol,h]) ih
  simp only[sz]at h2;rcases Nat.lt_or_ge p (o+a.sz)with h|h
  ·exact ha p (rch_any a o p h1 h)
  ·exact hb p (rch_any b _ p h (by omega))
 |alt a b,o,p,h1,h2=>by
  have hb:∀q,Rch b (o+a.sz) q->Rch (alt a b) o q:=fun q h=>by
   induction h with
   |last h=>exact .last (by simp[lst,h])
   |next h k ih=>exact .next (by simp[fol,h]) ih
  have ha:∀q,Rch a o q->Rch (alt a b) o q:=fun q h=>by
   induction h with
   |last h=>exact .last (by simp[lst,h])
   |next h k ih=>exact .next (by simp[fol,h]) ih
  simp only[sz]at h2;rcases Nat.lt_or_ge p (o+a.sz)with h|h
  ·exact ha p (rch_any a o p h1 h)
  ·exact hb p (rch_any b _ p h (by omega))
 |star a,o,p,h1,h2=>by
  have ha:∀q,Rch a o q->Rch (star a) o q:=fun q h=>by
   induction h with
   |last h=>exact .last h
   |next h k ih=>exact .next (by simp[fol,h]) ih
  exact ha p (rch_any a o p h1 h2)
 |plus a,o,p,h1,h2=>by
  have ha:∀q,Rch a o q->Rch (plus a) o q:=fun q h=>by
   induction h with
   |last h=>exact .last h
   |next h k ih=>exact .next (by simp[fol,h]) ih
  exact ha p (rch_any a o p h1 h2)
 |opt a,o,p,h1,h2=>by
  have ha:∀q,Rch a o q->Rch (opt a) o q:=fun q h=>by
   induction h with
   |last h=>exact .last h
   |next h k ih=>exact .next h ih
  exact ha p (rch_any a o p h1 h2)
def Full:Rx->Prop
 |eps=>True
 |lit f=>∃b,b<256/\f b=true
 |cat a b=>a.Full/\b.Full
 |alt a b=>a.Full/\b.Full
 |star a=>a.Full
 |plus a=>a.Full
 |opt a=>a.Full
theorem full_has:∀(e:Rx) (o p:Nat),e.Full->o<=p->p<o+e.sz->∃b,b<256/\e.has o p b=true
 |eps,o,p,_,h1,h2=>by simp[sz]at h2;omega
 |lit f,o,p,hf,h1,h2=>by
  obtain⟨b,h3,h4⟩:=hf;have:p=o:=by simp[sz]at h2;omega
  exact⟨b,h3,by simp[has,this,h4]⟩
 |cat a b,o,p,hf,h1,h2=>by
  simp only[sz]at h2;rcases Nat.lt_or_ge p (o+a.sz)with h|h
  ·obtain⟨c,h3,h4⟩:=full_has a o p hf.1 h1 h;exact⟨c,h3,by simp[has,h4]⟩
  ·obtain⟨c,h3,h4⟩:=full_has b _ p hf.2 h (by omega);exact⟨c,h3,by simp[has,h4]⟩
 |alt a b,o,p,hf,h1,h2=>by
  simp only[sz]at h2;rcases Nat.lt_or_ge p (o+a.sz)with h|h
  ·obtain⟨c,h3,h4⟩:=full_has a o p hf.1 h1 h;exact⟨c,h3,by simp[has,h4]⟩
  ·obtain⟨c,h3,h4⟩:=full_has b _ p hf.2 h (by omega);exact⟨c,h3,by simp[has,h4]⟩
 |star a,o,p,hf,h1,h2=>full_has a o p hf h1 h2
 |plus a,o,p,hf,h1,h2=>full_has a o p hf h1 h2
 |opt a,o,p,hf,h1,h2=>full_has a o p hf h1 h2
variable {e:Rx}
theorem nz_full (h:e.Full):e.nz.Full:=by unfold nz;split<;>first|trivial|exact h
theorem row_full {l:List Rx} (h:∀x∈l,x.Full):(rowOf l).Full:=by
 have key:∀(l:List Rx) (a:Rx),a.Full->(∀x∈l,x.Full)->(l.foldl cat a).Full:=by
  intro l
  induction l with
  |nil=>intro a h _;exact h
  |cons x l ih=>intro a h k;exact ih _ ⟨h,k x (by simp)⟩ (fun y hy=>k y (by simp[hy]))
 exact key l eps trivial h
variable {kd:Int}
theorem suf_full {le mo:Nat} (h:e.Full):(suf kd le mo e).Full:=by
 unfold suf
 repeat' split
 ·exact h
 ·exact h
 ·exact h
 ·refine row_full (fun x hx=>?_);obtain⟨i,_,rfl⟩:=List.mem_map.1 hx;split<;>exact h
end Rx
theorem Hj:∀(f k:Nat) (ts:List Tq) (e:Rx),Pp f k ts e->(∀q∈ts,q.t.kd=1->∃b,b<256/\q.f b=true)->e.Full:=by
 intro f
 induction f with
 |zero=>intro k ts e h;exact absurd h (by simp[Pp])
 |succ f ih=>
  intro k ts e h hq;rcases k with _|_|k
  ·unfold Pp at h;rcases h with ⟨q,rfl,h2,h3,rfl⟩|⟨a,inn,b,e0,rfl,h2,h3,h4,h5,h6,rfl⟩|⟨q,t,e0,rfl,h2,h3,h4,rfl⟩
   ·exact hq q (by simp) h3
   ·exact Rx.nz_full (ih 2 inn e0 h6 (fun q hx=>hq q (by simp[hx])))
   ·exact Rx.nz_full (Rx.suf_full (ih 0 q e0 h2 (fun x hx=>hq x (by simp[hx]))))
  ·unfold Pp at h;obtain⟨L,rfl,h2,rfl⟩:=h;refine Rx.row_full (fun x hx=>?_);obtain⟨y,hy,rfl⟩:=List.mem_map.1 hx;refine ih 0 y.1 y.2 (h2 y hy) (fun q hz=>hq q ?_);exact List.mem_flatten.2 ⟨y.1,List.mem_map.2 ⟨y,hy,rfl⟩,hz⟩
  ·unfold Pp at h;rcases h with h|⟨r,b,q,e1,e2,rfl,h2,h3,h4,h5,rfl⟩
   ·exact ih 1 ts e h hq
   ·exact⟨ih 1 r e1 h4 (fun x hx=>hq x (by simp[hx])),ih 2 q e2 h5 (fun x hx=>hq x (by simp[hx]))⟩
theorem F9 {f:Nat->Bool}:∀n,Rf.cntTo f n≠0->∃b,b<n/\f b=true:=by
 intro n
 induction n with
 |zero=>intro h;exact absurd rfl h
 |succ n ih=>
  intro h;by_cases hf:f n=true
  ·exact⟨n,by omega,hf⟩
  ·obtain⟨b,h1,h2⟩:=ih (fun h0=>h (by simp[Rf.cntTo,hf,h0]));exact⟨b,by omega,h2⟩
theorem PT:∀(ps:List Pg.Pt),(∀p∈ps,0<=p.pl)->Pg.matchless ps=-1->∀p∈ps,p.kd=1->Rf.cntTo p.f 256≠0:=by
 intro ps
 induction ps with
 |nil=>intro _ _ p hp;cases hp
 |cons x ps ih=>
  intro hpl hm p hp h1 h0;rw[Pg.matchless]at hm;by_cases hc:x.kd=1/\Rf.cntTo x.f 256=0
  ·rw[if_pos hc]at hm;have:=hpl x (by simp);omega
  ·rw[if_neg hc]at hm;rcases List.mem_cons.1 hp with rfl|h
   ·exact hc ⟨h1,h0⟩
   ·exact ih (fun q hq=>hpl q (by simp[hq])) hm p h h1 h0
variable {s:ByteArray}{qs:List Tq}
theorem Kb {ps:List Pg.Pt} (h3:X9 (Qs s) ps qs):(∀p∈ps,p.kd=1->Rf.cntTo p.f 256≠0)->∀q∈qs,q.t.kd=1->∃b,b<256/\q.f b=true:=by
 induction h3 with
 |nil=>intro _ q hq;cases hq
 |@cons a b l m hx t ih=>
  intro hall q hq h1;rcases List.mem_cons.1 hq with h|hq
  ·rw[h]at h1 ⊢;obtain⟨c,b1,b2⟩:=F9 256 (hall a (by simp) (by rw[hx.1];exact h1));exact⟨c,b1,by rw[<-hx.2.2.1];exact b2⟩
  ·exact ih (fun p hp=>hall p (by simp[hp])) q hq h1
theorem Pa (s:ByteArray) (h:(Pg.wrong (Y5 s) s.size).1=0):(WY s).Full:=by
 have hok:=((Xn s).2 h);obtain⟨_,h40,hok⟩:=hok;obtain⟨qs,f,_,_,h3,h4⟩:=Us s hok;have hml:Pg.matchless (Pg.readParts (Y5 s) s.size).ps=-1:=by
  unfold Pg.wrong at h;rw[if_neg (by omega)]at h;simp only[hok,if_true]at h;by_cases h1:Pg.tooDeep (Pg.readParts (Y5 s) s.size).ps 0=-1
  ·rw[if_pos h1]at h;by_cases h2:Pg.falling (Pg.readParts (Y5 s) s.size).ps=-1
   ·rw[if_pos h2]at h;by_cases h3:Pg.matchless (Pg.readParts (Y5 s) s.size).ps=-1
    ·exact h3
    ·rw[if_neg h3]at h;cases h
   ·rw[if_neg h2]at h;cases h
  ·rw[if_neg h1]at h;cases h
 have hpl:∀p∈(Pg.readParts (Y5 s) s.size).ps,0<=p.pl:=by
  have hc:=Sd s ((s.size:Int).toNat+1) 0 0 0 0 [] (by omega) (by omega) (by omega);have hR:Pg.partsFrom (Y5 s) s.size ((s.size:Int).toNat+1) 0 0 ((0:Nat):Int) []=Pg.readParts (Y5 s) s.size:=rfl;rw[hR]at hc;rcases hc with ⟨h1,_⟩|⟨ps,_,h2,_,_,_,_,h7⟩
  ·rw[h1]at hok;cases hok
  ·rw[h2,List.nil_append];exact fun p hp=>(h7 p hp).1
 have hall:=PT _ hpl hml;exact Hj f 2 qs _ h4 (Kb h3 hall)
abbrev Ln:=List Nat->Prop
def Ep:Ln:=fun w=>w=[]
def Un (L M:Ln):Ln:=fun w=>L w\/M w
def No:Ln:=fun _=>False
def Op (L:Ln):Ln:=fun w=>w=[]\/L w
def Li (f:Nat->Bool):Ln:=fun w=>∃b,w=[b]/\b<256/\f b=true
theorem Vw {L M:Ln} (h:∀w,L w<->M w):L=M:=funext fun w=>propext (h w)
theorem Qz (L:Ln):Cc L Ep=L:=Vw fun w=>⟨fun⟨u,v,e,hu,hv⟩=>by
 have:v=[]:=hv;subst this;rw[List.append_nil]at e;rw[e];exact hu,fun h=>⟨w,[],by simp,h,rfl⟩⟩
theorem IV (L:Ln):Cc Ep L=L:=Vw fun w=>⟨fun⟨u,v,e,hu,hv⟩=>by
 have:u=[]:=hu;subst this;rw[List.nil_append]at e;rw[e];exact hv,fun h=>⟨[],w,by simp,rfl,h⟩⟩
theorem M8 (L M N:Ln):Cc (Cc L M) N=Cc L (Cc M N):=Vw fun w=>by
 constructor
 ·rintro ⟨u,v,e,⟨x,y,e2,hx,hy⟩,hv⟩;exact⟨x,y++v,by rw[e,e2,List.append_assoc],hx,y,v,rfl,hy,hv⟩
 ·rintro ⟨u,v,e,hu,x,y,e2,hx,hy⟩;exact⟨u++x,y,by rw[e,e2,List.append_assoc],⟨u,x,rfl,hu,hx⟩,hy⟩
theorem Jp (L:Ln):Un No L=L:=Vw fun w=>by simp[Un,No]
theorem JU (L M N:Ln):Un (Un L M) N=Un L (Un M N):=Vw fun w=>by simp[Un,or_assoc]
namespace Rx
def Lq:Rx->Ln
 |eps=>Ep
 |lit f=>Li f
 |cat a b=>Cc a.Lq b.Lq
 |alt a b=>Un a.Lq b.Lq
 |star a=>St a.Lq
 |plus a=>Cc a.Lq (St a.Lq)
 |opt a=>Op a.Lq
theorem st_bytes {L M:Ln} (h:∀w,L w<->M w/\∀b∈w,b<256) (w:List Nat):St L w<->St M w/\∀b∈w,b<256:=by
 constructor
 ·intro k
  induction k with
  |nil=>exact⟨.nil,fun b hb=>by simp at hb⟩
  |cons h1 _ ih=>
   have h2:=(h _).1 h1;exact⟨.cons h2.1 ih.1,fun b hb=>by
    rcases List.mem_append.1 hb with hb|hb
    ·exact h2.2 b hb
    ·exact ih.2 b hb⟩
 ·rintro ⟨k,hb⟩
  induction k with
  |nil=>exact .nil
  |cons h1 _ ih=>exact .cons ((h _).2 ⟨h1,fun b hb'=>hb b (by simp[hb'])⟩) (ih (fun b hb'=>hb b (by simp[hb'])))
theorem cc_bytes {L M L' M':Ln} (h:∀w,L w<->L' w/\∀b∈w,b<256) (k:∀w,M w<->M' w/\∀b∈w,b<256) (w:List Nat):Cc L M w<->Cc L' M' w/\∀b∈w,b<256:=by
 constructor
 ·rintro ⟨u,v,e,hu,hv⟩;have h1:=(h u).1 hu;have h2:=(k v).1 hv;refine⟨⟨u,v,e,h1.1,h2.1⟩,fun b hb=>?_⟩;rw[e]at hb;rcases List.mem_append.1 hb with hb|hb
  ·exact h1.2 b hb
  ·exact h2.2 b hb
 ·rintro ⟨⟨u,v,e,hu,hv⟩,hb⟩;exact⟨u,v,e,(h u).2 ⟨hu,fun b hb'=>hb b (by rw[e];simp[hb'])⟩,(k v).2 ⟨hv,fun b hb'=>hb b (by rw[e];simp[hb'])⟩⟩
theorem lq_lg:∀(e:Rx) (w:List Nat),e.Lq w<->e.Lg w/\∀b∈w,b<256
 |eps,w=>⟨fun h=>⟨h,fun b hb=>by
   have:w=[]:=h;rw[this]at hb;simp at hb⟩,fun h=>h.1⟩
 |lit f,w=>by
  constructor
  ·rintro ⟨b,e,hb,hf⟩;exact⟨⟨b,e,hf⟩,fun c hc=>by rw[e]at hc;simp at hc;omega⟩
  ·rintro ⟨⟨b,e,hf⟩,hb⟩;exact⟨b,e,hb b (by simp[e]),hf⟩
 |cat a b,w=>cc_bytes (lq_lg a) (lq_lg b) w
 |alt a b,w=>by
  have h1:=lq_lg a w;have h2:=lq_lg b w;show a.Lq w\/b.Lq w<->(a.Lg w\/b.Lg w)/\_;rw[h1,h2];constructor
  ·rintro (h|h)
   ·exact⟨Or.inl h.1,h.2⟩
   ·exact⟨Or.inr h.1,h.2⟩
  ·rintro ⟨h|h,k⟩
   ·exact Or.inl ⟨h,k⟩
   ·exact Or.inr ⟨h,k⟩
 |star a,w=>st_bytes (lq_lg a) w
 |plus a,w=>cc_bytes (lq_lg a) (st_bytes (lq_lg a)) w
 |opt a,w=>by
  have h1:=lq_lg a w;show w=[]\/a.Lq w<->(w=[]\/a.Lg w)/\_;rw[h1];constructor
  ·rintro (h|h)
   ·exact⟨Or.inl h,fun b hb=>by rw[h]at hb;simp at hb⟩
   ·exact⟨Or.inr h.1,h.2⟩
  ·rintro ⟨h|h,k⟩
   ·exact Or.inl h
   ·exact Or.inr ⟨h,k⟩
theorem st_ep:St Ep=Ep:=Vw fun w=>by
 constructor
 ·intro h
  induction h with
  |nil=>rfl
  |cons h _ ih=>
   have h1:=h;have h2:=ih;rw[h1,h2];rfl
 ·intro h;have:w=[]:=h;rw[this];exact .nil
theorem lq_zero:∀e:Rx,e.sz=0->e.Lq=Ep
 |eps,_=>rfl
 |lit _,h=>by simp[sz]at h
 |cat a b,h=>by
  have h':a.sz+b.sz=0:=h;rw[Lq,lq_zero a (by omega),lq_zero b (by omega),Qz]
 |alt a b,h=>by
  have h':a.sz+b.sz=0:=h;rw[Lq,lq_zero a (by omega),lq_zero b (by omega)];exact Vw fun w=>by simp[Un]
 |star a,h=>by rw[Lq,lq_zero a h,st_ep]
 |plus a,h=>by rw[Lq,lq_zero a h,st_ep,Qz]
 |opt a,h=>by
  rw[Lq,lq_zero a h];exact Vw fun w=>by simp[Op,Ep]
theorem lq_nz (e:Rx):e.nz.Lq=e.Lq:=by
 unfold nz;split
 ·rename_i h;rw[lq_zero e h];rfl
 ·rfl
end Rx
def Fx (L:Ln) (le:Nat):Nat->Ln
 |0=>Ep
 |k+1=>Cc (Fx L le k) (if k<le then L else Op L)
def In (kd:Int) (le mo:Nat) (L:Ln):Ln:=if kd=5 then St L else if kd=6 then Cc L (St L) else if kd=7 then Op L else Fx L le mo
theorem Pw (e:Rx) (le:Nat):∀k,(Rx.rowOf (Rx.copies e le k)).Lq=Fx e.Lq le k
 |0=>rfl
 |k+1=>by
  rw[Rx.copies_succ,Rx.rowOf_snoc,Rx.Lq,Pw e le k,Fx];split<;>rfl
theorem Gi (kd:Int) (le mo:Nat) (e:Rx):(Rx.suf kd le mo e).Lq=In kd le mo e.Lq:=by
 unfold Rx.suf In;split
 ·rfl
 ·split
  ·rfl
  ·split
   ·rfl
   ·exact Pw e le mo
structure Fr where
 A:Ln
 R:Ln
 P:Ln
def Fr.row (c:Fr):Ln:=Cc c.R c.P
def Fr.val (c:Fr):Ln:=Un c.A c.row
def Fr.zero:Fr:=⟨No,Ep,Ep⟩
def Fr.piece (c:Fr) (L:Ln):Fr:=⟨c.A,c.row,L⟩
def Fr.bar (c:Fr):Fr:=⟨c.val,Ep,Ep⟩
def Ts (q:Tq) (s:Fr × List Fr):Fr × List Fr:=
 if q.t.kd=1 then (s.1.piece (Li q.f),s.2) else if q.t.kd=2 then (Fr.zero,s.1::s.2)
 else if q.t.kd=3 then (match s.2 with
  |[]=>s
  |F::st=>(F.piece s.1.val,st))
 else if q.t.kd=4 then (s.1.bar,s.2) else (⟨s.1.A,s.1.R,In q.t.kd q.le.toNat q.t.mo.toNat s.1.P⟩,s.2)
variable {q:Tq}
theorem FP (h:q.t.kd=1) (c:Fr) (st:List Fr):Ts q (c,st)=(c.piece (Li q.f),st):=by rw[Ts,if_pos h]
theorem Fq (h:q.t.kd=2) (c:Fr) (st:List Fr):Ts q (c,st)=(Fr.zero,c::st):=by rw[Ts,if_neg (by omega),if_pos h]
theorem Fs (h:q.t.kd=3) (c F:Fr) (st:List Fr):Ts q (c,F::st)=(F.piece c.val,st):=by rw[Ts,if_neg (by omega),if_neg (by omega),if_pos h]
theorem Ft (h:q.t.kd=4) (c:Fr) (st:List Fr):Ts q (c,st)=(c.bar,st):=by rw[Ts,if_neg (by omega),if_neg (by omega),if_neg (by omega),if_pos h]
theorem Fu (h:Ym q.t) (c:Fr) (st:List Fr):Ts q (c,st)=(⟨c.A,c.R,In q.t.kd q.le.toNat q.t.mo.toNat c.P⟩,st):=by
 unfold Ym at h;rw[Ts,if_neg (by omega),if_neg (by omega),if_neg (by omega),if_neg (by omega)]
def Uf (qs:List Tq) (s:Fr × List Fr):Fr × List Fr:=qs.foldl (fun s q=>Ts q s) s
theorem VN (a b:List Tq) (s:Fr × List Fr):Uf (a++b) s=Uf b (Uf a s):=by simp[Uf]
theorem Sy (a:Tq) (b:List Tq) (s:Fr × List Fr):Uf (a::b) s=Uf b (Ts a s):=by simp[Uf]
theorem Q9 (a:Tq) (s:Fr × List Fr):Uf [a] s=Ts a s:=rfl
theorem Gn:∀(f k:Nat) (ts:List Tq) (e:Rx),Pp f k ts e ->
  (k=0->∀c st,Uf ts (c,st)=(c.piece e.Lq,st))/\(k=1->∀c st,∃c',Uf ts (c,st)=(c',st)/\c'.A=c.A/\c'.row=Cc c.row e.Lq) /\
  (2<=k->∀A st,∃c',Uf ts (⟨A,Ep,Ep⟩,st)=(c',st)/\c'.val=Un A e.Lq):=by
 intro f
 induction f with
 |zero=>intro k ts e h;exact absurd h (by simp[Pp])
 |succ f ih=>
  intro k ts e h;rcases k with _|_|k
  ·refine⟨fun _ c st=>?_,fun h=>by omega,fun h=>by omega⟩;unfold Pp at h;rcases h with ⟨q,rfl,_,h1,rfl⟩|⟨a,inn,b,e0,rfl,_,ha,_,hb,h1,rfl⟩|⟨q,t,e0,rfl,h1,_,ht,rfl⟩
   ·rw[Q9,FP h1];rfl
   ·obtain⟨c',r1,r2⟩:=(ih 2 inn e0 h1).2.2 (Nat.le_refl _) No (c::st);rw[Sy,VN,Q9,Fq ha];show Ts b (Uf inn (⟨No,Ep,Ep⟩,c::st))=_;rw[r1,Fs hb,Rx.lq_nz,<-Jp e0.Lq,<-r2]
   ·have r1:=(ih 0 q e0 h1).1 rfl c st;rw[VN,r1,Q9,Fu ht,Rx.lq_nz,Gi];rfl
  ·refine⟨fun h=>by omega,fun _ c st=>?_,fun h=>by omega⟩;unfold Pp at h;obtain⟨L,rfl,hL,rfl⟩:=h;have key:∀(L:List (List Tq × Rx)),(∀x∈L,Pp f 0 x.1 x.2)->∀(c:Fr) (st:List Fr) (e0:Rx) (B:Ln),c.row=Cc B e0.Lq->∃c',Uf (L.map (·.1)).flatten (c,st)=(c',st)/\c'.A=c.A/\c'.row=Cc B ((L.map (·.2)).foldl Rx.cat e0).Lq:=by
    intro L
    induction L with
    |nil=>intro _ c st e0 B h;exact⟨c,rfl,rfl,h⟩
    |cons x L ihL=>
     intro hL c st e0 B hc;have r1:=(ih 0 x.1 x.2 (hL x (by simp))).1 rfl c st;obtain⟨c',k1,k2,k3⟩:=ihL (fun y hy=>hL y (by simp[hy])) (c.piece x.2.Lq) st (Rx.cat e0 x.2) B (by
      show Cc c.row x.2.Lq=Cc B (Cc e0.Lq x.2.Lq);rw[hc,M8])
     refine⟨c',?_,k2,k3⟩;rw[List.map_cons,List.flatten_cons,VN,r1];exact k1
   exact key L hL c st .eps c.row (by show _=Cc _ Ep;rw[Qz])
  ·refine⟨fun h=>by omega,fun h=>by omega,fun _ A st=>?_⟩;unfold Pp at h;rcases h with h|⟨r,b,q,e1,e2,rfl,_,hb,h1,h2,rfl⟩
   ·obtain⟨c',r1,r2,r3⟩:=(ih 1 ts e h).2.1 rfl ⟨A,Ep,Ep⟩ st;refine⟨c',r1,?_⟩;rw[Fr.val,r2,r3];show Un A (Cc (Cc Ep Ep) e.Lq)=_;rw[Qz,IV]
   ·obtain⟨c',r1,r2,r3⟩:=(ih 1 r e1 h1).2.1 rfl ⟨A,Ep,Ep⟩ st;have r3':c'.row=e1.Lq:=by
     rw[r3];show Cc (Cc Ep Ep) e1.Lq=_;rw[Qz,IV]
    obtain⟨c2,k1,k2⟩:=(ih 2 q e2 h2).2.2 (Nat.le_refl _) (Un A e1.Lq) st;refine⟨c2,?_,?_⟩
    ·rw[VN,r1,Sy,Ft hb,<-k1,Fr.bar,Fr.val,r2,r3']
    ·rw[k2,JU];rfl
end
end Go.Proofs.YtoaaklhpmhjhkabGreat
