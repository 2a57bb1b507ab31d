import Derived.Test.YtoaaklhpmhjhkabC21
set_option maxRecDepth 100000
set_option maxHeartbeats 4000000
set_option linter.all false
namespace Go.Proofs.Ytoaaklhpmhjhkab
open Go.RowKit
def Qk (w:List UInt8) (f:Nat->Bool):Prop:=
 (w=[46]/\∀b,b<256->f b=(b != 10)) \/
 (∃c v r0,w=c::r0/\c≠46/\c≠91/\c≠40/\(∀r,Rf.one (w++r)=some (v,w.length))/\∀b,b<256->f b=decide ((b:Int)=v)) \/
 (∃e,w=91::e/\∀r i,∃fa,Rf.set (e++r) i=some (i+(e.length+1),fa,f))
def Lh (w:List UInt8) (le:Int):Prop:=∃(x:UInt8) (r:List UInt8),w=123::x::r/\48<=(x.toNat:Int)/\(x.toNat:Int)<=57/\le=(x.toNat:Int)-48
theorem UL {v:Int} (b:Nat):Pg.withF (fun _=>false) v v b=decide ((b:Int)=v):=by
 unfold Pg.withF;by_cases h:(b:Int)=v
 ·simp[h]
 ·have:¬(v<=(b:Int)/\(b:Int)<=v):=by omega
  simp only[Bool.false_or,h,decide_false];rcases Int.lt_or_le (b:Int) v with h1|h1
  ·simp[show ¬v<=(b:Int) by omega]
  ·simp[show ¬(b:Int)<=v by omega]
theorem OF (s:ByteArray) (k n:Nat) (c:UInt8) (r:List UInt8) (hd:s.data.toList.drop k=c::r) (h1:Pg.kindOf (Y5 s k)=1) (hok:(Pg.readPart (Y5 s) s.size k 1).ok=true) (hn:(Pg.readPart (Y5 s) s.size k 1).n=((k+n:Nat):Int)) (_hn2:k+n<=s.size):
  Qk ((s.data.toList.drop k).take n) (Pg.readPart (Y5 s) s.size k 1).f:=by
 have hb:Y5 s (k:Int)=c.toNat:=by rw[VT hd];rfl
 by_cases e91:c=91
 ·subst e91;have hb':Y5 s (k:Int)=91:=hb;have hP:Pg.readPart (Y5 s) s.size k 1=⟨(Pg.readSet (Y5 s) s.size k).n,(Pg.readSet (Y5 s) s.size k).ok,(Pg.readSet (Y5 s) s.size k).f,0,(Pg.readSet (Y5 s) s.size k).fa⟩:=by
   rw[Pg.readPart,if_pos rfl,Pg.readPlace,if_pos hb']
  rw[hP]at hok hn ⊢;rcases UK s k r 0 0 0 (Or.inl rfl) hd with ⟨m,F,FA,g1,g2,g3,g4,_⟩|⟨g1,_⟩
  ·rw[g3]at hn ⊢;simp only at hn ⊢;have hm:m=k+n:=by omega
   refine Or.inr (Or.inr ⟨r.take (n-1),?_,fun r' i'=>?_⟩)
   ·rw[hd,show n=(n-1)+1 by omega,List.take_succ_cons];rfl
   ·obtain⟨fa,h⟩:=Sk g4 r' i';refine⟨fa,?_⟩;have hlen:r.length+1=s.size-k:=by
     have:(s.data.toList.drop k).length=s.size-k:=by simp
     rw[hd]at this;simpa using this
    rw[show m-k-1=n-1 by omega]at h;rw[h,List.length_take,show i'+(m-k)=i'+(min (n-1) r.length+1) by omega]
  ·rw[g1]at hok;cases hok
 by_cases e92:c=92
 ·subst e92;have hb':Y5 s (k:Int)=92:=hb;have hP:Pg.readPart (Y5 s) s.size k 1=⟨(Pg.readEscape (Y5 s) k).n,(Pg.readEscape (Y5 s) k).ok,Pg.withF (fun _=>false) (Pg.readEscape (Y5 s) k).v (Pg.readEscape (Y5 s) k).v,0,-1⟩:=by
   rw[Pg.readPart,if_pos rfl,Pg.readPlace,if_neg (by rw[hb'];decide),if_neg (by rw[hb'];decide),if_pos hb']
  rw[hP]at hok hn ⊢;rcases VI s k r hd with ⟨m,v,g1,g3,g4,_⟩|⟨m,g1,_⟩
  ·rw[g1]at hn ⊢;simp only at hn ⊢;have hm:n=m+1:=by omega
   subst hm;refine Or.inr (Or.inl ⟨92,v,r.take m,by rw[hd,List.take_succ_cons],by decide,by decide,by decide,fun r'=>?_,fun b _=>UL b⟩);rw[hd];have:=WC g3 r';rw[this];congr 2;simp;omega
  ·rw[g1]at hok;cases hok
 by_cases e46:c=46
 ·subst e46;have hb':Y5 s (k:Int)=46:=hb;have hP:Pg.readPart (Y5 s) s.size k 1=⟨(k:Int)+1,true,fun k=>!(Pg.withF (fun _=>false) 10 10 k),0,-1⟩:=by
   rw[Pg.readPart,if_pos rfl,Pg.readPlace,if_neg (by rw[hb'];decide),if_pos hb']
  rw[hP]at hn ⊢;simp only at hn ⊢;have hm:n=1:=by omega
  subst hm;refine Or.inl ⟨by rw[hd];rfl,fun b _=>?_⟩;show(!Pg.withF (fun _=>false) 10 10 b)=(b != 10);rw[UL];by_cases h:b=10
  ·subst h;rfl
  ·have:¬(b:Int)=10:=by omega
   simp[h,this]
 ·have n91:=YC e91;have n92:=YC e92;have n46:=YC e46;have hP:Pg.readPart (Y5 s) s.size k 1=⟨(k:Int)+1,true,Pg.withF (fun _=>false) (Y5 s k) (Y5 s k),0,-1⟩:=by
   rw[Pg.readPart,if_pos rfl,Pg.readPlace,if_neg (by rw[hb];exact n91),if_neg (by rw[hb];exact n46),if_neg (by rw[hb];exact n92)]
  rw[hP]at hn ⊢;simp only at hn ⊢;have hm:n=1:=by omega
  subst hm;have n40:c≠40:=fun e=>by
   subst e;rw[hb]at h1;exact absurd h1 (by decide)
  refine Or.inr (Or.inl ⟨c,c.toNat,[],by rw[hd];rfl,e46,e91,n40,fun r'=>?_,fun b _=>?_⟩)
  ·rw[hd];simp[Rf.one,e92]
  ·rw[hb];exact UL b
theorem Nf (s:ByteArray) (k n:Nat) (_c:UInt8) (_r:List UInt8) (hw:Ww ((s.data.toList.drop k).take n) (Pg.readPart (Y5 s) s.size k 8).mo):Lh ((s.data.toList.drop k).take n) (Pg.digitValue (Y5 s ((k:Int)+1))):=by
 have key:∀(x:UInt8) (r':List UInt8),(s.data.toList.drop k).take n=123::x::r'->48<=(x.toNat:Int)->(x.toNat:Int)<=57->Lh ((s.data.toList.drop k).take n) (Pg.digitValue (Y5 s ((k:Int)+1))):=fun x r' he h1 h2=>by
  refine⟨x,r',he,h1,h2,?_⟩;have hx:(s.data.toList.drop k)[1]?=some x:=by
   have h3:((s.data.toList.drop k).take n)[1]?=some x:=by rw[he];rfl
   rw[List.getElem?_take]at h3;split at h3
   ·exact h3
   ·cases h3
  rw[Qo rfl,at_,hx];simp only;rw[Pg.digitValue,if_pos ⟨h1,h2⟩]
 rcases hw with ⟨x,he,h1,h2,_⟩|⟨x,z,he,h1,h2,_⟩
 ·exact key x _ he h1 h2
 ·exact key x _ he h1 h2
structure Tq where
 t:Tk
 f:Nat->Bool
 le:Int
def ST (q:Tq):Prop:=Xp q.t/\(q.t.kd=1->Qk q.t.w q.f)/\(q.t.kd=8->Lh q.t.w q.le)
def SS (s:ByteArray) (p:Pg.Pt) (q:Tq):Prop:=p.kd=q.t.kd/\p.mo=q.t.mo/\p.f=q.f/\(p.kd=8->Pg.digitValue (Y5 s (p.pl+1))=q.le)
inductive Yk {α β:Type} (R:α->β->Prop):List α->List β->Prop
 |nil:Yk R [] []
 |cons {a:α}{b:β}{l:List α}{m:List β} (h:R a b) (t:Yk R l m):Yk R (a::l) (b::m)
theorem Nx (s:ByteArray):∀(u k:Nat) (bf op:Int) (acc:List Pg.Pt),s.size<u+k->k<=s.size->(Pg.partsFrom (Y5 s) s.size u bf op k acc).ok=true ->
  ∃ps qs,(Pg.partsFrom (Y5 s) s.size u bf op k acc).ps=acc++ps/\Yn (qs.map Tq.t)=s.data.toList.drop k/\M6 (qs.map Tq.t) bf op/\(∀q∈qs,ST q)/\Yk (SS s) ps qs:=by
 intro u
 induction u with
 |zero=>intro k bf op acc h1 h2;omega
 |succ u ih=>
  intro k bf op acc hu hk hok;rcases hd:s.data.toList.drop k with _|⟨c,r⟩
  ·have hks:k=s.size:=by
    have:s.size<=k:=by simpa using hd
    omega
   have hge:¬(k:Int)<(s.size:Int):=by omega
   rw[Pg.partsFrom,if_neg hge]at hok ⊢;exact⟨[],[],by simp,rfl,by simpa[M6]using hok,by simp,Yk.nil⟩
  ·have hlt:=Yd hd;have hlti:(k:Int)<(s.size:Int):=by omega
   rw[Pg.partsFrom,if_pos hlti]at hok ⊢;cases hc:Pg.canStand (Pg.kindOf (Y5 s k)) bf op
   ·rw[hc]at hok;cases hok
   rw[hc]at hok;simp only[if_true]at hok ⊢;cases hp:(Pg.readPart (Y5 s) s.size k (Pg.kindOf (Y5 s k))).ok
   ·rw[hp]at hok;cases hok
   rw[hp]at hok;simp only[if_true]at hok ⊢;have h0:Pg.kindOf (Y5 s k)≠0:=by
    intro e;rw[e]at hc;simp[Pg.canStand]at hc
   obtain⟨n,n1,n2,n3,n4⟩:=Mh s k c r hd h0 hp;have hn3:=n3;rw[n3]at hok ⊢;obtain⟨ps,qs,g1,g2,g3,g4,g5⟩:=ih (k+n) _ _ _ (by omega) n2 hok;refine⟨_::ps,⟨⟨(s.data.toList.drop k).take n,Pg.kindOf (Y5 s k),(Pg.readPart (Y5 s) s.size k (Pg.kindOf (Y5 s k))).mo⟩,(Pg.readPart (Y5 s) s.size k (Pg.kindOf (Y5 s k))).f,Pg.digitValue (Y5 s ((k:Int)+1))⟩::qs,by rw[g1,List.append_assoc];rfl,?_,⟨n4,hc,g3⟩,?_,Yk.cons ⟨rfl,rfl,rfl,fun _=>rfl⟩ g5⟩
   ·rw[List.map_cons,Yo,g2,<-hd,<-YX,List.take_append_drop]
   ·intro q hq;rcases List.mem_cons.1 hq with rfl|h
    ·refine⟨n4,fun h1=>?_,fun h8=>?_⟩
     ·simp only at h1 ⊢;rw[h1]at hp hn3 ⊢;exact OF s k n c r hd h1 hp hn3 n2
     ·simp only at h8 ⊢;have hw:=(R8 n4 h8).2;simp only at hw;rw[h8]at hw;exact Nf s k n c r hw
    ·exact g4 q h
def Pp:Nat->Nat->List Tq->Rx->Prop
 |0,_,_,_=>False
 |f+1,0,ts,e=>(∃q,ts=[q]/\ST q/\q.t.kd=1/\e=.lit q.f) \/
   (∃a inn b e0,ts=a::(inn++[b])/\ST a/\a.t.kd=2/\ST b/\b.t.kd=3/\Pp f 2 inn e0/\e=e0.nz) \/
   (∃q t e0,ts=q++[t]/\Pp f 0 q e0/\ST t/\Yr t.t/\e=(Rx.suf t.t.kd t.le.toNat t.t.mo.toNat e0).nz)
 |f+1,1,ts,e=>∃L:List (List Tq × Rx),ts=(L.map (·.1)).flatten/\(∀x∈L,Pp f 0 x.1 x.2)/\e=Rx.rowOf (L.map (·.2))
 |f+1,_,ts,e=>Pp f 1 ts e\/∃r b q e1 e2,ts=r++b::q/\ST b/\b.t.kd=4/\Pp f 1 r e1/\Pp f 2 q e2/\e=.alt e1 e2
theorem UP:∀(f k:Nat) (ts:List Tq) (e:Rx),Pp f k ts e->Pp (f+1) k ts e:=by
 intro f
 induction f with
 |zero=>intro k ts e h;exact absurd h (by simp[Pp])
 |succ f ih=>
  intro k ts e h;rcases k with _|_|k
  ·unfold Pp at h ⊢;rcases h with h|⟨a,inn,b,e0,h1,h2,h3,h4,h5,h6,h7⟩|⟨q,t,e0,h1,h2,h3⟩
   ·exact Or.inl h
   ·exact Or.inr (Or.inl ⟨a,inn,b,e0,h1,h2,h3,h4,h5,ih _ _ _ h6,h7⟩)
   ·exact Or.inr (Or.inr ⟨q,t,e0,h1,ih _ _ _ h2,h3⟩)
  ·unfold Pp at h ⊢;obtain⟨L,h1,h2,h3⟩:=h;exact⟨L,h1,fun x hx=>ih _ _ _ (h2 x hx),h3⟩
  ·unfold Pp at h ⊢;rcases h with h|⟨r,b,q,e1,e2,h1,h2,h3,h4,h5,h6⟩
   ·exact Or.inl (ih _ _ _ h)
   ·exact Or.inr ⟨r,b,q,e1,e2,h1,h2,h3,ih _ _ _ h4,ih _ _ _ h5,h6⟩
variable {b' kd m' o' : Int}{ts : List Tq}{p r x y : List UInt8}{V d g i k n : Nat}{f : Nat → Bool}{e : Rx}{c : UInt8}
theorem Re {f:Nat} (h:Pp f k ts e) (hfg:f<=g):Pp g k ts e:=by
 induction g with
 |zero=>
   have:f=0:=by omega
   subst this;exact h
 |succ g ih=>
  by_cases e:f=g+1
  ·subst e;exact h
  ·exact UP _ _ _ _ (ih (by omega))
variable {e2 : Rx}
theorem M4 {f:Nat}{p r:List Tq}{e1:Rx} (h1:Pp f 0 p e1) (h2:Pp f 2 r e2):∃e,Pp (f+2) 2 (p++r) e:=by
 have row:∀(f:Nat) (r:List Tq) (e2:Rx),Pp f 0 p e1->Pp f 1 r e2->∃e,Pp (f+1) 1 (p++r) e:=fun f r e2 h1 h2=>by
  rcases f with _|f
  ·exact absurd h1 (by simp[Pp])
  obtain⟨L,g1,g2,_⟩:=h2;refine⟨_,(p,e1)::L,by rw[g1];simp,fun x hx=>?_,rfl⟩;rcases List.mem_cons.1 hx with rfl|hx
  ·exact h1
  ·exact UP _ _ _ _ (g2 x hx)
 rcases f with _|f
 ·exact absurd h1 (by simp[Pp])
 rcases h2 with h|⟨r1,b,q,e3,e4,k1,k2,k3,k4,k5,_⟩
 ·obtain⟨e,he⟩:=row (f+1) r e2 h1 (UP _ _ _ _ h);exact⟨e,Or.inl he⟩
 ·obtain⟨e,he⟩:=row (f+1) r1 e3 h1 (UP _ _ _ _ k4);exact⟨_,Or.inr ⟨p++r1,b,q,e,e4,by rw[k1];simp,k2,k3,he,Re k5 (by omega),rfl⟩⟩
theorem WB {a b:List Tk} (h:ts.map Tq.t=a++b):∃x y,ts=x++y/\x.map Tq.t=a/\y.map Tq.t=b:=by
 refine⟨ts.take a.length,ts.drop a.length,(List.take_append_drop _ _).symm,?_,?_⟩
 ·rw[List.map_take,h,List.take_left'];rfl
 ·rw[List.map_drop,h,List.drop_left'];rfl
theorem M5:∀(f:Nat) (g:Bool) (ts:List Tq) (V:Int),(∀q∈ts,ST q)->Is f g (ts.map Tq.t) V->∃F e,Pp F (if g then 2 else 0) ts e:=by
 intro f
 induction f with
 |zero=>intro g ts V _ h;exact absurd h (by simp[Is])
 |succ f ih=>
  intro g ts V hq h;cases g
  ·unfold Is at h;rcases h with ⟨t,h1,h2,h3,_⟩|⟨a,inn,b,h1,h2,h3,h4,h5,h6⟩|⟨q,t,A,h1,h2,h3,h4,_⟩
   ·rcases ts with _|⟨q,_|⟨q2,ts⟩⟩
    ·simp at h1
    ·simp at h1;exact⟨1,.lit q.f,Or.inl ⟨q,rfl,hq q (by simp),by rw[h1];exact h3,rfl⟩⟩
    ·simp at h1
   ·obtain⟨x,y,e1,e2,e3⟩:=WB (a:=[a]) (b:=inn++[b]) (by rw[h1];rfl);obtain⟨y1,y2,e4,e5,e6⟩:=WB e3;rcases x with _|⟨x,_|⟨x2,xs⟩⟩
    ·simp at e2
    rotate_left
    ·simp at e2
    rcases y2 with _|⟨z,_|⟨z2,zs⟩⟩
    ·simp at e6
    rotate_left
    ·simp at e6
    simp at e2 e6;obtain⟨F,e,hP⟩:=ih true y1 V (fun q hx=>hq q (by rw[e1,e4];simp[hx])) (by rw[e5];exact h6);exact⟨F+1,e.nz,Or.inr (Or.inl ⟨x,y1,z,e,by rw[e1,e4];rfl,hq x (by rw[e1];simp),by rw[e2];exact h3,hq z (by rw[e1,e4];simp),by rw[e6];exact h5,hP,rfl⟩)⟩
   ·obtain⟨x,y,e1,e2,e3⟩:=WB h1;rcases y with _|⟨z,_|⟨z2,zs⟩⟩
    ·simp at e3
    rotate_left
    ·simp at e3
    simp at e3;obtain⟨F,e,hP⟩:=ih false x A (fun q hx=>hq q (by rw[e1];simp[hx])) (by rw[e2];exact h2);exact⟨F+1,_,Or.inr (Or.inr ⟨x,z,e,e1,hP,hq z (by rw[e1];simp),by rw[e3];exact h4,rfl⟩)⟩
  ·unfold Is at h;rcases h with ⟨h1,_⟩|⟨t,r,h1,h2,h3,h4⟩|⟨p,r,A,B,h1,h2,h3,_,_⟩
   ·have:ts=[]:=by simpa using h1
    subst this;exact⟨2,Rx.rowOf [],Or.inl ⟨[],rfl,by simp,rfl⟩⟩
   ·obtain⟨x,y,e1,e2,e3⟩:=WB (a:=[t]) (b:=r) (by rw[h1];rfl);rcases x with _|⟨x,_|⟨x2,xs⟩⟩
    ·simp at e2
    rotate_left
    ·simp at e2
    simp at e2;obtain⟨F,e,hP⟩:=ih true y V (fun q hx=>hq q (by rw[e1];simp[hx])) (by rw[e3];exact h4);exact⟨F+2,_,Or.inr ⟨[],x,y,Rx.rowOf [],e,by rw[e1];rfl,hq x (by rw[e1];simp),by rw[e2];exact h3,⟨[],rfl,by simp,rfl⟩,UP _ _ _ _ hP,rfl⟩⟩
   ·obtain⟨x,y,e1,e2,e3⟩:=WB h1;obtain⟨F1,f1,hP1⟩:=ih false x A (fun q hx=>hq q (by rw[e1];simp[hx])) (by rw[e2];exact h2);obtain⟨F2,f2,hP2⟩:=ih true y B (fun q hx=>hq q (by rw[e1];simp[hx])) (by rw[e3];exact h3);obtain⟨e,he⟩:=M4 (Re hP1 (Nat.le_max_left F1 F2)) (Re hP2 (Nat.le_max_right F1 F2));exact⟨_,e,by rw[e1];exact he⟩
theorem OO (s:ByteArray) (h:(Pg.readParts (Y5 s) s.size).ok=true):∃qs f e,Yn (qs.map Tq.t)=s.data.toList/\(∀q∈qs,ST q)/\Yk (SS s) (Pg.readParts (Y5 s) s.size).ps qs/\Pp f 2 qs e:=by
 unfold Pg.readParts at h ⊢;obtain⟨ps,qs,h1,h2,h3,h4,h5⟩:=Nx s ((s.size:Int).toNat+1) 0 0 0 [] (by omega) (by omega) h;have hns:∀t r,qs.map Tq.t=t::r->¬Yr t:=by
  intro t r e hs;rw[e]at h3;have:=h3.2.1;unfold Yr at hs;simp[Pg.canStand,Pg.endsPiece,Pg.isSuffix]at this;rcases hs with h|h|h|h<;>simp[h]at this
 obtain⟨f,inn,rest,V,g1,g2,g3⟩:=Md (qs.map Tq.t).length (qs.map Tq.t) 0 0 (Nat.le_refl _) (Int.le_refl _) h3 hns;have hrest:rest=[]:=by
  rcases g3 with ⟨h,_⟩|⟨b,r,_,_,_,h,_⟩
  ·exact h
  ·omega
 rw[hrest,List.append_nil]at g1;obtain⟨F,e,hP⟩:=M5 f true qs V h4 (by rw[g1];exact g2);have h1':(Pg.partsFrom (Y5 s) (s.size:Int) ((s.size:Int).toNat+1) 0 0 0 []).ps=ps:=by
  have:=h1;rw[List.nil_append]at this;exact this
 refine⟨qs,F,e,by rw[h2];rfl,h4,?_,hP⟩;rw[h1'];exact h5
theorem LZ {t:Tk} (h3:Xp t) (h4:Yr t) (le:Nat) (e0:Rx):((Rx.suf t.kd le t.mo.toNat e0).sz:Int)=if t.kd=8 then (e0.sz:Int)*t.mo else e0.sz:=by
 unfold Rx.suf;unfold Yr at h4;by_cases h8:t.kd=8
 ·rw[if_neg (by omega),if_neg (by omega),if_neg (by omega),if_pos h8,Rx.copies_sz];have:=(R8 h3 h8).1;rw[Int.natCast_mul,Int.mul_comm,Int.toNat_of_nonneg this]
 ·rw[if_neg h8];by_cases h5:t.kd=5
  ·rw[if_pos h5];rfl
  ·rw[if_neg h5];by_cases h6:t.kd=6
   ·rw[if_pos h6];rfl
   ·rw[if_neg h6,if_pos (by omega)];rfl
theorem SM:∀(f k:Nat) (ts:List Tq) (e:Rx),Pp f k ts e->(∀q∈ts,ST q)/\∃F,(k=0->Is F false (ts.map Tq.t) e.sz/\∃q r,ts=q::r/\(q.t.kd=1\/q.t.kd=2))/\(k=1->∀G r V,Is G true r V->(∀t r',r=t::r'->¬Yr t)->∃F',Is F' true (ts.map Tq.t++r) (e.sz+V))/\(2<=k->Is F true (ts.map Tq.t) e.sz):=by
 intro f
 induction f with
 |zero=>intro k ts e h;exact absurd h (by simp[Pp])
 |succ f ih=>
  intro k ts e h;rcases k with _|_|k
  ·unfold Pp at h;rcases h with ⟨q,rfl,h2,h3,rfl⟩|⟨a,inn,b,e0,rfl,h2,h3,h4,h5,h6,rfl⟩|⟨q,t,e0,rfl,h2,h3,h4,rfl⟩
   ·exact⟨by simpa using h2,1,fun _=>⟨Or.inl ⟨q.t,rfl,h2.1,h3,rfl⟩,q,[],rfl,Or.inl h3⟩,(fun h=>by omega),fun h=>by omega⟩
   ·obtain⟨k1,F,_,_,k3⟩:=ih 2 inn e0 h6;refine⟨fun q hq=>?_,F+1,fun _=>⟨Or.inr (Or.inl ⟨a.t,inn.map Tq.t,b.t,by simp,h2.1,h3,h4.1,h5,by rw[Rx.nz_sz];exact k3 (by omega)⟩),a,_,rfl,Or.inr h3⟩,(fun h=>by omega),fun h=>by omega⟩;simp only[List.mem_cons,List.mem_append,List.not_mem_nil,or_false]at hq;rcases hq with rfl|hq|rfl
    ·exact h2
    ·exact k1 q hq
    ·exact h4
   ·obtain⟨k1,F,k2,_,_⟩:=ih 0 q e0 h2;obtain⟨k2,q0,r0,k4,k5⟩:=k2 rfl;refine⟨fun x hx=>?_,F+1,fun _=>⟨Or.inr (Or.inr ⟨q.map Tq.t,t.t,_,by simp,k2,h3.1,h4,?_⟩),q0,r0++[t],by rw[k4];rfl,k5⟩,(fun h=>by omega),fun h=>by omega⟩
    ·rcases List.mem_append.1 hx with h|h
     ·exact k1 x h
     ·rw[List.mem_singleton.1 h];exact h3
    ·rw[Rx.nz_sz];exact LZ h3.1 h4 _ _
  ·unfold Pp at h;obtain⟨L,rfl,h2,rfl⟩:=h;refine⟨fun q hq=>?_,0,(fun h=>by omega),fun _=>?_,fun h=>by omega⟩
   ·obtain⟨l,hl,hql⟩:=List.mem_flatten.1 hq;obtain⟨x,hx,rfl⟩:=List.mem_map.1 hl;exact(ih 0 x.1 x.2 (h2 x hx)).1 q hql
   ·intro G r V hG hns
    induction L with
    |nil=>exact⟨G,by simpa[Rx.rowOf,Rx.sz]using hG⟩
    |cons x L ihL=>
     obtain⟨F',hF'⟩:=ihL (fun y hy=>h2 y (by simp[hy]));obtain⟨_,F1,k2,_,_⟩:=ih 0 x.1 x.2 (h2 x (by simp));obtain⟨k2,_⟩:=k2 rfl;refine⟨max F1 F'+1,?_⟩;rw[Rx.rowOf_sz];rw[Rx.rowOf_sz]at hF';refine Or.inr (Or.inr ⟨x.1.map Tq.t,_,_,_,?_,Wi k2 (Nat.le_max_left _ _),Wi hF' (Nat.le_max_right _ _),?_,?_⟩)
     ·simp
     ·simp;omega
     ·intro t r' he;rcases L with _|⟨y,L⟩
      ·exact hns t r' (by simpa using he)
      ·obtain⟨_,_,k3,_,_⟩:=ih 0 y.1 y.2 (h2 y (by simp));obtain⟨_,q,r2,k4,k5⟩:=k3 rfl;have:q.t=t:=by
        rw[List.map_cons,List.flatten_cons]at he;rw[show(y.1)=q::r2 from k4]at he;simp at he;exact he.1
       rw[<-this];unfold Yr;omega
  ·unfold Pp at h;rcases h with h|⟨r,b,q,e1,e2,rfl,h2,h3,h4,h5,rfl⟩
   ·obtain⟨k1,F,_,k2,_⟩:=ih 1 ts e h;obtain⟨F',hF⟩:=k2 rfl 1 [] 0 (Or.inl ⟨rfl,rfl⟩) (by simp);exact⟨k1,F',(fun h=>by omega),(fun h=>by omega),fun _=>by simpa using hF⟩
   ·obtain⟨k1,F,_,k2,_⟩:=ih 1 r e1 h4;obtain⟨k3,F2,_,_,k4⟩:=ih 2 q e2 h5;have hb:Is (F2+1) true (b.t::q.map Tq.t) e2.sz:=Or.inr (Or.inl ⟨b.t,_,rfl,h2.1,h3,k4 (by omega)⟩);obtain⟨F',hF⟩:=k2 rfl _ _ _ hb (by
     intro t r' he;cases he;unfold Yr;omega)
    refine⟨fun x hx=>?_,F',(fun h=>by omega),(fun h=>by omega),fun _=>?_⟩
    ·simp only[List.mem_append,List.mem_cons]at hx;rcases hx with h|rfl|h
     ·exact k1 x h
     ·exact h2
     ·exact k3 x h
    ·have:((Rx.alt e1 e2).sz:Int)=(e1.sz:Int)+(e2.sz:Int):=by simp[Rx.sz]
     rw[this,List.map_append,List.map_cons];exact hF
def Ud:List Int->Int->Nat->Nat
 |[],_,i=>i
 |k::ks,op,i=>if k=4/\op=0 then i else Ud ks (op+Pg.opn k) (i+1)
def WI:List Int->Int->Nat->Nat
 |[],_,i=>i
 |k::ks,op,i=>if op+Pg.opn k=0 then i+1 else WI ks (op+Pg.opn k) (i+1)
def kds (ts:List Tq):List Int:=ts.map fun q=>q.t.kd
theorem WT (a b:List Tq):kds (a++b)=kds a++kds b:=by simp[kds]
theorem TW (a:List Tq):(kds a).length=a.length:=by simp[kds]
theorem MF {k:Int} (h:k=5\/k=6\/k=7\/k=8):Pg.opn k=0:=by unfold Pg.opn;rw[if_neg (by omega),if_neg (by omega)]
theorem Qy:∀(f k:Nat) (ts:List Tq) (e:Rx),Pp f k ts e ->
  (∀(op:Int) (i:Nat) (rest:List Int),1<=op->WI (kds ts++rest) op i=WI rest op (i+ts.length)) /\
  (∀(op:Int) (i:Nat) (rest:List Int),1<=op\/(op=0/\k<=1)->Ud (kds ts++rest) op i=Ud rest op (i+ts.length)) /\
  (k=0->∃m,1<=m/\m<=ts.length/\(∀i rest,WI (kds ts++rest) 0 i=i+m)/\∀q∈ts.drop m,Yr q.t):=by
 intro f
 induction f with
 |zero=>intro k ts e h;exact absurd h (by simp[Pp])
 |succ f ih=>
  intro k ts e h;rcases k with _|_|k
  ·unfold Pp at h;rcases h with ⟨q,rfl,h2,h3,rfl⟩|⟨a,inn,b,e0,rfl,h2,h3,h4,h5,h6,rfl⟩|⟨q,t,e0,rfl,h2,h3,h4,rfl⟩
   ·have ho:Pg.opn q.t.kd=0:=by rw[h3];rfl
    refine⟨fun op i rest hop=>?_,fun op i rest hop=>?_,fun _=>⟨1,by omega,by simp,fun i rest=>?_,by simp⟩⟩
    ·simp only[kds,List.map_cons,List.map_nil,List.cons_append,List.nil_append,WI,ho,Int.add_zero];rw[if_neg (by omega)];rfl
    ·simp only[kds,List.map_cons,List.map_nil,List.cons_append,List.nil_append,Ud,ho,Int.add_zero];rw[if_neg (by omega)];rfl
    ·simp[kds,WI,ho]
   ·obtain⟨i1,i2,_⟩:=ih 2 inn e0 h6;have ha:Pg.opn a.t.kd=1:=by rw[h3];rfl
    have hb:Pg.opn b.t.kd=-1:=by rw[h5];rfl
    have hk:kds (a::(inn++[b]))=a.t.kd::(kds inn++[b.t.kd]):=by simp[kds]
    have hl:(a::(inn++[b])).length=inn.length+2:=by simp
    refine⟨fun op i rest hop=>?_,fun op i rest hop=>?_,fun _=>⟨inn.length+2,by omega,by simp,fun i rest=>?_,fun q hq=>?_⟩⟩
    ·rw[hk,List.cons_append,WI,ha,if_neg (by omega),List.append_assoc,i1 _ _ _ (by omega),List.singleton_append,WI,hb,if_neg (by omega),hl];congr 1<;>omega
    ·rw[hk,List.cons_append,Ud,ha,if_neg (by omega),List.append_assoc,i2 _ _ _ (Or.inl (by omega)),List.singleton_append,Ud,hb,if_neg (by omega),hl];congr 1<;>omega
    ·rw[hk,List.cons_append,WI,ha,if_neg (by omega),List.append_assoc,i1 _ _ _ (by omega),List.singleton_append,WI,hb,if_pos (by omega)];omega
    ·rw[List.drop_of_length_le (by rw[hl];omega)]at hq;cases hq
   ·obtain⟨i1,i2,i3⟩:=ih 0 q e0 h2;obtain⟨m,m1,m2,m3,m4⟩:=i3 rfl;have ho:Pg.opn t.t.kd=0:=MF (by unfold Yr at h4;omega);have h4':t.t.kd≠4:=by unfold Yr at h4;omega
    have hk:kds (q++[t])=kds q++[t.t.kd]:=by simp[kds]
    have hl:(q++[t]).length=q.length+1:=by simp
    refine⟨fun op i rest hop=>?_,fun op i rest hop=>?_,fun _=>⟨m,m1,by omega,fun i rest=>?_,fun x hx=>?_⟩⟩
    ·rw[hk,List.append_assoc,i1 _ _ _ hop,List.singleton_append,WI,ho,if_neg (by omega),hl];congr 1;omega
    ·rw[hk,List.append_assoc,i2 _ _ _ hop,List.singleton_append,Ud,ho,if_neg (by omega),hl];congr 1;omega
    ·rw[hk,List.append_assoc];exact m3 _ _
    ·rw[List.drop_append_of_le_length m2]at hx;rcases List.mem_append.1 hx with h|h
     ·exact m4 x h
     ·rw[List.mem_singleton.1 h];exact h4
  ·unfold Pp at h;obtain⟨L,rfl,h2,rfl⟩:=h;refine⟨fun op i rest hop=>?_,fun op i rest hop=>?_,fun h=>by omega⟩
   ·induction L generalizing i with
    |nil=>simp[kds]
    |cons x L ihL=>
     obtain⟨i1,_,_⟩:=ih 0 x.1 x.2 (h2 x (by simp));have:=ihL (fun y hy=>h2 y (by simp[hy])) (i+x.1.length);rw[List.map_cons,List.flatten_cons,WT,List.append_assoc,i1 _ _ _ hop,this,List.length_append];congr 1;omega
   ·induction L generalizing i with
    |nil=>simp[kds]
    |cons x L ihL=>
     obtain⟨_,i2,_⟩:=ih 0 x.1 x.2 (h2 x (by simp));have:=ihL (fun y hy=>h2 y (by simp[hy])) (i+x.1.length);rw[List.map_cons,List.flatten_cons,WT,List.append_assoc,i2 _ _ _ (by omega),this,List.length_append];congr 1;omega
  ·unfold Pp at h;rcases h with h|⟨r,b,q,e1,e2,rfl,h2,h3,h4,h5,rfl⟩
   ·obtain⟨i1,i2,_⟩:=ih 1 ts e h;exact⟨i1,fun op i rest hop=>i2 op i rest (by omega),fun h=>by omega⟩
   ·obtain⟨i1,i2,_⟩:=ih 1 r e1 h4;obtain⟨j1,j2,_⟩:=ih 2 q e2 h5;have ho:Pg.opn b.t.kd=0:=by rw[h3];rfl
    have hk:kds (r++b::q)=kds r++(b.t.kd::kds q):=by simp[kds]
    have hl:(r++b::q).length=r.length+1+q.length:=by simp;omega
    refine⟨fun op i rest hop=>?_,fun op i rest hop=>?_,fun h=>by omega⟩
    ·rw[hk,List.append_assoc,i1 _ _ _ hop,List.cons_append,WI,ho,if_neg (by omega),Int.add_zero,j1 _ _ _ hop,hl];congr 1;omega
    ·rw[hk,List.append_assoc,i2 _ _ _ (by omega),List.cons_append,Ud,ho,if_neg (by omega),Int.add_zero,j2 _ _ _ (by omega),hl];congr 1;omega
def Sm (p:Pg.Pt) (q:Tq):Prop:=p.kd=q.t.kd/\p.mo=q.t.mo/\p.f=q.f/\(p.kd=8->p.le=q.le)
theorem Yk.len {α β:Type}{R:α->β->Prop}{l:List α}{m:List β} (h:Yk R l m):l.length=m.length:=by
 induction h with
 |nil=>rfl
 |cons h t ih=>simp[ih]
theorem Yk.split {α β:Type}{R:α->β->Prop}:∀(a:List β) (b:List β) (l:List α),Yk R l (a++b)->Yk R (l.take a.length) a/\Yk R (l.drop a.length) b
 |[],b,l,h=>⟨by simpa using Yk.nil,by simpa using h⟩
 |x::a,b,l,h=>by
  cases h with
  |cons h t=>
   obtain⟨h1,h2⟩:=Yk.split a b _ t;exact⟨by simpa using Yk.cons h h1,by simpa using h2⟩
theorem Yk.kds {ps:List Pg.Pt}{ts:List Tq} (h:Yk Sm ps ts):ps.map (fun p=>p.kd)=kds ts:=by
 induction h with
 |nil=>rfl
 |cons h t ih=>
  simp only[List.map_cons,ih,Go.Proofs.Ytoaaklhpmhjhkab.kds];rw[h.1]
theorem Yk.two {ps:List Pg.Pt} (h:Yk Sm ps ts):ps.map (fun p=>(p.kd,p.mo))=(ts.map Tq.t).map (fun t=>(t.kd,t.mo)):=by
 induction h with
 |nil=>rfl
 |cons h t ih=>simp only[List.map_cons,ih];rw[h.1,h.2.1]
theorem Qv {f:Nat}{ps:List Pg.Pt} (h:Pp f 0 ts e) (hb:Yk Sm ps ts):Pg.countPlaces ps=Pg.capped e.sz:=by
 obtain⟨_,F,k2,_,_⟩:=SM f 0 ts e h;obtain⟨hI,_⟩:=k2 rfl;obtain⟨hV,hF,_⟩:=machine F false (ts.map Tq.t) e.sz hI;have e1:=hF rfl ⟨0,0,[]⟩ (by simp) (by simp);rw[Pg.countPlaces,Vf ps ((ts.map Tq.t).map Xd) (by rw[hb.two];simp[Xd]),e1];simp only;have h0:Pg.capped (0+0)=0:=rfl;have h1:=Wm (a:=(e.sz:Int)) (b:=0) hV (by omega);rw[h0,show(0:Int)+Pg.capped (e.sz:Int)=Pg.capped (e.sz:Int)+0 by omega,h1];simp
theorem Qr:Pg.capped (n:Int)=0<->n=0:=by rw[Xq];split<;>omega
theorem Q5 (s:ByteArray) (h:(Pg.readParts (Y5 s) s.size).ok=true):∃e qs f,Yn (qs.map Tq.t)=s.data.toList/\(∀q∈qs,ST q)/\Yk (SS s) (Pg.readParts (Y5 s) s.size).ps qs/\Pp f 2 qs e:=by
 obtain⟨qs,f,e,h1,h2,h3,h4⟩:=OO s h;exact⟨e,qs,f,h1,h2,h3,h4⟩
open Classical in
noncomputable def TE (s:ByteArray):Rx:=if h:(Pg.readParts (Y5 s) s.size).ok=true then Classical.choose (Q5 s h) else .eps
theorem UJ (s:ByteArray) (h:(Pg.readParts (Y5 s) s.size).ok=true):∃qs f,Yn (qs.map Tq.t)=s.data.toList/\(∀q∈qs,ST q)/\Yk (SS s) (Pg.readParts (Y5 s) s.size).ps qs/\Pp f 2 qs (TE s):=by
 have:=Classical.choose_spec (Q5 s h);unfold TE;rw[dif_pos h];exact this
theorem Yk.twoP {s:ByteArray}{ps:List Pg.Pt} (h:Yk (SS s) ps ts):ps.map (fun p=>(p.kd,p.mo))=(ts.map Tq.t).map (fun t=>(t.kd,t.mo)):=by
 induction h with
 |nil=>rfl
 |cons h t ih=>simp only[List.map_cons,ih];rw[h.1,h.2.1]
theorem Sp {f:Nat}{ps:List Pg.Pt} (h:Pp f 2 ts e) (hb:ps.map (fun p=>(p.kd,p.mo))=(ts.map Tq.t).map (fun t=>(t.kd,t.mo))):Pg.countPlaces ps=Pg.capped e.sz:=by
 obtain⟨_,F,_,_,k2⟩:=SM f 2 ts e h;have hI:=k2 (Nat.le_refl _);obtain⟨hV,_,hT⟩:=machine F true (ts.map Tq.t) e.sz hI;obtain⟨ah,la,e1,_,_,e4⟩:=hT rfl ⟨0,0,[]⟩ (by simp) (by simp);rw[Pg.countPlaces,Vf ps ((ts.map Tq.t).map Xd) (by rw[hb];simp[Xd]),e1];simp only;rw[e4];simp
theorem UG (s:ByteArray) (h:(Pg.readParts (Y5 s) s.size).ok=true):Pg.countPlaces (Pg.readParts (Y5 s) s.size).ps=Pg.capped (TE s).sz:=by
 obtain⟨qs,f,_,_,h3,h4⟩:=UJ s h;exact Sp h4 h3.twoP
def YO (es:Nat->Rx):Nat->Nat
 |0=>0
 |k+1=>YO es k+(es k).sz
theorem XT (es:Nat->Rx) {a b:Nat} (h:a<=b):YO es a<=YO es b:=by
 induction b with
 |zero=>
   have:a=0:=by omega
   subst this;exact Nat.le_refl _
 |succ b ih=>
  by_cases e:a=b+1
  ·subst e;exact Nat.le_refl _
  ·have:=ih (by omega);simp only[YO];omega
theorem Rz (es:Nat->Rx) (u:Nat->Int):∀n,(∀i,i<n->u i=Pg.capped (es i).sz)->¬96<Yj u n->Yj u n=(YO es n:Int)/\YO es n<=96:=by
 intro n hu hs;have h2:=(Pn (u:=u) (v:=fun i=>((es i).sz:Int)) n (fun i hi=>⟨by omega,hu i hi⟩));have h3:∀m,Yj (fun i=>((es i).sz:Int)) m=(YO es m:Int):=by
  intro m
  induction m with
  |zero=>rfl
  |succ m ih=>simp only[Yj,YO,ih];omega
 rw[h3]at h2;have h4:¬96<(YO es n:Int):=fun h=>hs (h2.1.2 h)
 have h5:=h2.2 h4;exact⟨h5,by omega⟩
end Go.Proofs.Ytoaaklhpmhjhkab
namespace Go.Proofs.Ytoaaklhpmhjhkab
open Go.RowKit
namespace Rx
theorem nul_or_fst:∀(e:Rx) (o:Nat),e.nul=true\/∃p,e.fst o p=true
 |eps,_=>Or.inl rfl
 |lit _,o=>Or.inr ⟨o,by simp[fst]⟩
 |cat a b,o=>by
  rcases nul_or_fst a o with h|⟨p,h⟩
  ·rcases nul_or_fst b (o+a.sz)with k|⟨p,k⟩
   ·exact Or.inl (by simp[nul,h,k])
   ·exact Or.inr ⟨p,by simp[fst,h,k]⟩
  ·exact Or.inr ⟨p,by simp[fst,h]⟩
 |alt a b,o=>by
  rcases nul_or_fst a o with h|⟨p,h⟩
  ·exact Or.inl (by simp[nul,h])
  ·exact Or.inr ⟨p,by simp[fst,h]⟩
 |star _,_=>Or.inl rfl
 |plus a,o=>nul_or_fst a o
 |opt _,_=>Or.inl rfl
inductive Rch (e:Rx) (o:Nat):Nat->Prop
 |last {p:Nat} (h:e.lst o p=true):Rch e o p
 |next {p q:Nat} (h:e.fol o p q=true) (k:Rch e o q):Rch e o p
theorem rch_any:∀(e:Rx) (o p:Nat),o<=p->p<o+e.sz->Rch e o p
 |eps,o,p,h1,h2=>by simp[sz]at h2;omega
 |lit _,o,p,h1,h2=>.last (by simp[sz]at h2;simp[lst];omega)
 |cat a b,o,p,h1,h2=>by
  have hb:∀q,Rch b (o+a.sz) q->Rch (cat a b) o q:=fun q h=>by
   induction h with
   |last h=>exact .last (by simp[lst,h])
   |next h k ih=>exact .next (by simp[fol,h]) ih
  have ha:∀q,Rch a o q->Rch (cat a b) o q:=fun q h=>by
   induction h with
   |last h=>
    rcases nul_or_fst b (o+a.sz)with k|⟨x,k⟩
    ·exact .last (by simp[lst,h,k])
    ·have hx:=fst_rng b _ x k;exact .next (q:=x) (by simp[fol,h,k]) (hb x (rch_any b _ x hx.1 hx.2))
   |next h k ih=>exact .next (by simp[fol,h]) ih
  simp only[sz]at h2;rcases Nat.lt_or_ge p (o+a.sz)with h|h
  ·exact ha p (rch_any a o p h1 h)
  ·exact hb p (rch_any b _ p h (by omega))
 |alt a b,o,p,h1,h2=>by
  have hb:∀q,Rch b (o+a.sz) q->Rch (alt a b) o q:=fun q h=>by
   induction h with
   |last h=>exact .last (by simp[lst,h])
   |next h k ih=>exact .next (by simp[fol,h]) ih
  have ha:∀q,Rch a o q->Rch (alt a b) o q:=fun q h=>by
   induction h with
   |last h=>exact .last (by simp[lst,h])
   |next h k ih=>exact .next (by simp[fol,h]) ih
  simp only[sz]at h2;rcases Nat.lt_or_ge p (o+a.sz)with h|h
  ·exact ha p (rch_any a o p h1 h)
  ·exact hb p (rch_any b _ p h (by omega))
 |star a,o,p,h1,h2=>by
  have ha:∀q,Rch a o q->Rch (star a) o q:=fun q h=>by
   induction h with
   |last h=>exact .last h
   |next h k ih=>exact .next (by simp[fol,h]) ih
  exact ha p (rch_any a o p h1 h2)
 |plus a,o,p,h1,h2=>by
  have ha:∀q,Rch a o q->Rch (plus a) o q:=fun q h=>by
   induction h with
   |last h=>exact .last h
   |next h k ih=>exact .next (by simp[fol,h]) ih
  exact ha p (rch_any a o p h1 h2)
 |opt a,o,p,h1,h2=>by
  have ha:∀q,Rch a o q->Rch (opt a) o q:=fun q h=>by
   induction h with
   |last h=>exact .last h
   |next h k ih=>exact .next h ih
  exact ha p (rch_any a o p h1 h2)
def Full:Rx->Prop
 |eps=>True
 |lit f=>∃b,b<256/\f b=true
 |cat a b=>a.Full/\b.Full
 |alt a b=>a.Full/\b.Full
 |star a=>a.Full
 |plus a=>a.Full
 |opt a=>a.Full
theorem full_has:∀(e:Rx) (o p:Nat),e.Full->o<=p->p<o+e.sz->∃b,b<256/\e.has o p b=true
 |eps,o,p,_,h1,h2=>by simp[sz]at h2;omega
 |lit f,o,p,hf,h1,h2=>by
  obtain⟨b,h3,h4⟩:=hf;have:p=o:=by simp[sz]at h2;omega
  exact⟨b,h3,by simp[has,this,h4]⟩
 |cat a b,o,p,hf,h1,h2=>by
  simp only[sz]at h2;rcases Nat.lt_or_ge p (o+a.sz)with h|h
  ·obtain⟨c,h3,h4⟩:=full_has a o p hf.1 h1 h;exact⟨c,h3,by simp[has,h4]⟩
  ·obtain⟨c,h3,h4⟩:=full_has b _ p hf.2 h (by omega);exact⟨c,h3,by simp[has,h4]⟩
 |alt a b,o,p,hf,h1,h2=>by
  simp only[sz]at h2;rcases Nat.lt_or_ge p (o+a.sz)with h|h
  ·obtain⟨c,h3,h4⟩:=full_has a o p hf.1 h1 h;exact⟨c,h3,by simp[has,h4]⟩
  ·obtain⟨c,h3,h4⟩:=full_has b _ p hf.2 h (by omega);exact⟨c,h3,by simp[has,h4]⟩
 |star a,o,p,hf,h1,h2=>full_has a o p hf h1 h2
 |plus a,o,p,hf,h1,h2=>full_has a o p hf h1 h2
 |opt a,o,p,hf,h1,h2=>full_has a o p hf h1 h2
variable {e : Rx}
theorem nz_full (h:e.Full):e.nz.Full:=by unfold nz;split<;>first|trivial|exact h
theorem row_full {l:List Rx} (h:∀x∈l,x.Full):(rowOf l).Full:=by
 have key:∀(l:List Rx) (a:Rx),a.Full->(∀x∈l,x.Full)->(l.foldl cat a).Full:=by
  intro l
  induction l with
  |nil=>intro a h _;exact h
  |cons x l ih=>intro a h k;exact ih _ ⟨h,k x (by simp)⟩ (fun y hy=>k y (by simp[hy]))
 exact key l eps trivial h
variable {kd : Int}
theorem suf_full {le mo:Nat} (h:e.Full):(suf kd le mo e).Full:=by
 unfold suf
 repeat' split
 ·exact h
 ·exact h
 ·exact h
 ·refine row_full (fun x hx=>?_);obtain⟨i,_,rfl⟩:=List.mem_map.1 hx;split<;>exact h
end Rx
theorem Mx:∀(f k:Nat) (ts:List Tq) (e:Rx),Pp f k ts e->(∀q∈ts,q.t.kd=1->∃b,b<256/\q.f b=true)->e.Full:=by
 intro f
 induction f with
 |zero=>intro k ts e h;exact absurd h (by simp[Pp])
 |succ f ih=>
  intro k ts e h hq;rcases k with _|_|k
  ·unfold Pp at h;rcases h with ⟨q,rfl,h2,h3,rfl⟩|⟨a,inn,b,e0,rfl,h2,h3,h4,h5,h6,rfl⟩|⟨q,t,e0,rfl,h2,h3,h4,rfl⟩
   ·exact hq q (by simp) h3
   ·exact Rx.nz_full (ih 2 inn e0 h6 (fun q hx=>hq q (by simp[hx])))
   ·exact Rx.nz_full (Rx.suf_full (ih 0 q e0 h2 (fun x hx=>hq x (by simp[hx]))))
  ·unfold Pp at h;obtain⟨L,rfl,h2,rfl⟩:=h;refine Rx.row_full (fun x hx=>?_);obtain⟨y,hy,rfl⟩:=List.mem_map.1 hx;refine ih 0 y.1 y.2 (h2 y hy) (fun q hz=>hq q ?_);exact List.mem_flatten.2 ⟨y.1,List.mem_map.2 ⟨y,hy,rfl⟩,hz⟩
  ·unfold Pp at h;rcases h with h|⟨r,b,q,e1,e2,rfl,h2,h3,h4,h5,rfl⟩
   ·exact ih 1 ts e h hq
   ·exact⟨ih 1 r e1 h4 (fun x hx=>hq x (by simp[hx])),ih 2 q e2 h5 (fun x hx=>hq x (by simp[hx]))⟩
variable {b' m' o' : Int}{p r x y : List UInt8}{V d i : Nat}{f : Nat → Bool}{c : UInt8}
theorem LP:∀n,Rf.cntTo f n≠0->∃b,b<n/\f b=true:=by
 intro n
 induction n with
 |zero=>intro h;exact absurd rfl h
 |succ n ih=>
  intro h;by_cases hf:f n=true
  ·exact⟨n,by omega,hf⟩
  ·obtain⟨b,h1,h2⟩:=ih (fun h0=>h (by simp[Rf.cntTo,hf,h0]));exact⟨b,by omega,h2⟩
theorem St:∀(ps:List Pg.Pt),(∀p∈ps,0<=p.pl)->Pg.matchless ps=-1->∀p∈ps,p.kd=1->Rf.cntTo p.f 256≠0:=by
 intro ps
 induction ps with
 |nil=>intro _ _ p hp;cases hp
 |cons x ps ih=>
  intro hpl hm p hp h1 h0;rw[Pg.matchless]at hm;by_cases hc:x.kd=1/\Rf.cntTo x.f 256=0
  ·rw[if_pos hc]at hm;have:=hpl x (by simp);omega
  ·rw[if_neg hc]at hm;rcases List.mem_cons.1 hp with rfl|h
   ·exact hc ⟨h1,h0⟩
   ·exact ih (fun q hq=>hpl q (by simp[hq])) hm p h h1 h0
theorem Oa {s:ByteArray}{ps:List Pg.Pt}{qs:List Tq} (h3:Yk (SS s) ps qs):(∀p∈ps,p.kd=1->Rf.cntTo p.f 256≠0)->∀q∈qs,q.t.kd=1->∃b,b<256/\q.f b=true:=by
 induction h3 with
 |nil=>intro _ q hq;cases hq
 |@cons a b l m hx t ih=>
  intro hall q hq h1;rcases List.mem_cons.1 hq with h|hq
  ·rw[h]at h1 ⊢;obtain⟨c,b1,b2⟩:=LP 256 (hall a (by simp) (by rw[hx.1];exact h1));exact⟨c,b1,by rw[<-hx.2.2.1];exact b2⟩
  ·exact ih (fun p hp=>hall p (by simp[hp])) q hq h1
theorem Pj (s:ByteArray) (h:(Pg.wrong (Y5 s) s.size).1=0):(TE s).Full:=by
 have hok:=((Xl s).2 h);obtain⟨_,h40,hok⟩:=hok;obtain⟨qs,f,_,_,h3,h4⟩:=UJ s hok;have hml:Pg.matchless (Pg.readParts (Y5 s) s.size).ps=-1:=by
  unfold Pg.wrong at h;rw[if_neg (by omega)]at h;simp only[hok,if_true]at h;by_cases h1:Pg.tooDeep (Pg.readParts (Y5 s) s.size).ps 0=-1
  ·rw[if_pos h1]at h;by_cases h2:Pg.falling (Pg.readParts (Y5 s) s.size).ps=-1
   ·rw[if_pos h2]at h;by_cases h3:Pg.matchless (Pg.readParts (Y5 s) s.size).ps=-1
    ·exact h3
    ·rw[if_neg h3]at h;cases h
   ·rw[if_neg h2]at h;cases h
  ·rw[if_neg h1]at h;cases h
 have hpl:∀p∈(Pg.readParts (Y5 s) s.size).ps,0<=p.pl:=by
  have hc:=Uq s ((s.size:Int).toNat+1) 0 0 0 0 [] (by omega) (by omega) (by omega);have hR:Pg.partsFrom (Y5 s) s.size ((s.size:Int).toNat+1) 0 0 ((0:Nat):Int) []=Pg.readParts (Y5 s) s.size:=rfl;rw[hR]at hc;rcases hc with ⟨h1,_⟩|⟨ps,_,h2,_,_,_,_,h7⟩
  ·rw[h1]at hok;cases hok
  ·rw[h2,List.nil_append];exact fun p hp=>(h7 p hp).1
 have hall:=St _ hpl hml;exact Mx f 2 qs _ h4 (Oa h3 hall)
structure Rt (x:List UInt8) (V:Nat) (d:Nat):Prop where
 run:∀(m b o:Int),(m=0\/m=1)->0<=o->∃b',∀(i:Nat) (r:List UInt8),Rf.formFrom m b o i (x++r)=Rf.formFrom 1 b' o (i+x.length) r/\(o+d<=6->Rf.deepFrom m b o i (x++r)=Rf.deepFrom 1 b' o (i+x.length) r)
 val:∀(p:List UInt8) (i:Nat) (r:List UInt8),p.drop i=x++r->∀f v,Rf.valueFrom p f i=some v->∃f',Rf.valueFrom p f' (i+x.length)=some v
 emp:∀(p:List UInt8) (i:Nat) (r:List UInt8),p.drop i=x++r->∀f v,Rf.emptyFrom p f i=some v->∃f',Rf.emptyFrom p f' (i+x.length)=some v
 tok:∃ts:List Tk,Yn ts=x/\(∃t r',ts=t::r'/\¬Yr t)/\∀G r W,Is G true r W->(∀t r',r=t::r'->¬Yr t)->∃F,Is F true (ts++r) (V+W)
theorem Rt.mono {e:Nat} (h:Rt x V d) (hd:d<=e):Rt x V e:=
 ⟨fun m b o hm ho=>by
  obtain⟨b',hb⟩:=h.run m b o hm ho;exact⟨b',fun i r=>⟨(hb i r).1,fun h6=>(hb i r).2 (by omega)⟩⟩,h.val,h.emp,h.tok⟩
theorem LY {W:Nat} (h:Rt x V d) (k:Rt y W d):Rt (x++y) (V+W) d:=by
 refine⟨fun m b o hm ho=>?_,fun p i r hp f v hv=>?_,fun p i r hp f v hv=>?_,?_⟩
 ·obtain⟨b1,h1⟩:=h.run m b o hm ho;obtain⟨b2,h2⟩:=k.run 1 b1 o (Or.inr rfl) ho;refine⟨b2,fun i r=>?_⟩;rw[List.append_assoc,List.length_append,<-Nat.add_assoc];refine⟨by rw[(h1 i _).1,(h2 _ r).1],fun h6=>by rw[(h1 i _).2 h6,(h2 _ r).2 h6]⟩
 ·rw[List.append_assoc]at hp;obtain⟨f1,h1⟩:=h.val p i _ hp f v hv;have hp2:p.drop (i+x.length)=y++r:=by rw[<-List.drop_drop,hp,List.drop_left]
  obtain⟨f2,h2⟩:=k.val p _ r hp2 f1 v h1;exact⟨f2,by rw[List.length_append,<-Nat.add_assoc];exact h2⟩
 ·rw[List.append_assoc]at hp;obtain⟨f1,h1⟩:=h.emp p i _ hp f v hv;have hp2:p.drop (i+x.length)=y++r:=by rw[<-List.drop_drop,hp,List.drop_left]
  obtain⟨f2,h2⟩:=k.emp p _ r hp2 f1 v h1;exact⟨f2,by rw[List.length_append,<-Nat.add_assoc];exact h2⟩
 ·obtain⟨ts,t1,⟨t,r',t2,t3⟩,t4⟩:=h.tok;obtain⟨us,u1,⟨u,q',u2,u3⟩,u4⟩:=k.tok;refine⟨ts++us,by rw[YA,t1,u1],⟨t,r'++us,by rw[t2];rfl,t3⟩,fun G r X hI hn=>?_⟩;obtain⟨F1,h1⟩:=u4 G r X hI hn;obtain⟨F2,h2⟩:=t4 F1 (us++r) _ h1 (fun a b e=>by rw[u2]at e;have:=(List.cons.inj e).1;rw[<-this];exact u3);exact⟨F2,by
    rw[List.append_assoc];have e:((V+W:Nat):Int)+X=V+(W+X):=by omega
    rw[e];exact h2⟩
theorem XV (hp:p.drop i=c::r) (h1:c≠92) (h2:c≠91) (h3:c≠123) {f:Nat}{v:Int} (h:Rf.valueFrom p f i=some v):∃f',Rf.valueFrom p f' (i+1)=some v:=by
 cases f with
 |zero=>cases h
 |succ f=>rw[Rf.valueFrom,hp]at h;simp only[h1,h2,h3,if_false]at h;exact⟨f,h⟩
theorem X3 (hp:p.drop i=c::r) (h1:c≠92) (h2:c≠91) {f:Nat}{v:Int} (h:Rf.emptyFrom p f i=some v):∃f',Rf.emptyFrom p f' (i+1)=some v:=by
 cases f with
 |zero=>cases h
 |succ f=>rw[Rf.emptyFrom,hp]at h;simp only[h1,h2,if_false]at h;exact⟨f,h⟩
theorem Rp {m b o:Int} (h:Rf.read m b o c.toNat=⟨true,m',b',o'⟩):Rf.formFrom m b o i (c::r)=Rf.formFrom m' b' o' (i+1) r:=by
 rw[Rf.formFrom,h];rfl
theorem Ro {m b o:Int} (h:Rf.read m b o c.toNat=⟨true,m',b',o'⟩) (h6:o'<=6):Rf.deepFrom m b o i (c::r)=Rf.deepFrom m' b' o' (i+1) r:=by
 rw[Rf.deepFrom,h];simp only;rw[if_neg (by omega)]
theorem Pi {m:Int} (b o:Int) (hm:m=0\/m=1):Rf.read m b o 40=⟨true,0,b,o+1⟩:=by rw[V9 _ _ _ hm];simp[Rf.outside]
theorem NB {m:Int} (b o:Int) (hm:m=0\/m=1):Rf.read m b o 124=⟨true,0,b,o⟩:=by rw[V9 _ _ _ hm];simp[Rf.outside]
theorem NC {m:Int} (b o:Int) (hm:m=0\/m=1) (ho:1<=o):Rf.read m b o 41=⟨true,1,b,o-1⟩:=by rw[V9 _ _ _ hm];simp[Rf.outside,Rf.to,ho]
def Mg:Tk:={ w:=[40],kd:=2,mo:=0 }
def Mf:Tk:={ w:=[41],kd:=3,mo:=0 }
def Lp:Tk:={ w:=[124],kd:=4,mo:=0 }
theorem Lc:Xp Mg:=Or.inr (Or.inl ⟨rfl,rfl⟩)
theorem Lb:Xp Mf:=Or.inr (Or.inr (Or.inl ⟨rfl,rfl⟩))
theorem La:Xp Lp:=Or.inr (Or.inr (Or.inr (Or.inl ⟨rfl,rfl⟩)))
theorem PP (t:Tk) (h:t.kd<5):¬Yr t:=by unfold Yr;omega
theorem MY:Is 1 true [] 0:=Or.inl ⟨rfl,rfl⟩
structure MX (x:List UInt8) (V:Nat) (d:Nat):Prop where
 run:∀(b o:Int),0<=o->∃(m' b':Int),(m'=0\/m'=1)/\∀(i:Nat) (r:List UInt8),Rf.formFrom 0 b o i (x++r)=Rf.formFrom m' b' o (i+x.length) r/\(o+d<=6->Rf.deepFrom 0 b o i (x++r)=Rf.deepFrom m' b' o (i+x.length) r)
 val:∀(p:List UInt8) (i:Nat) (r:List UInt8),p.drop i=x++r->∀f v,Rf.valueFrom p f i=some v->∃f',Rf.valueFrom p f' (i+x.length)=some v
 emp:∀(p:List UInt8) (i:Nat) (r:List UInt8),p.drop i=x++r->∀f v,Rf.emptyFrom p f i=some v->∃f',Rf.emptyFrom p f' (i+x.length)=some v
 tok:∃(ts:List Tk) (F:Nat),Yn ts=x/\Is F true ts V
theorem Wq (h:Rt x V d):MX x V d:=by
 refine⟨fun b o ho=>?_,h.val,h.emp,?_⟩
 ·obtain⟨b',hb⟩:=h.run 0 b o (Or.inl rfl) ho;exact⟨1,b',Or.inr rfl,hb⟩
 ·obtain⟨ts,t1,_,t4⟩:=h.tok;obtain⟨F,hF⟩:=t4 1 [] 0 MY (fun t r e=>by cases e);rw[List.append_nil,Int.add_zero]at hF;exact⟨ts,F,t1,hF⟩
theorem Pd:MX [] 0 0:=
 ⟨fun b o _=>⟨0,b,Or.inl rfl,fun i r=>⟨rfl,fun _=>rfl⟩⟩,fun p i r hp f v hv=>⟨f,hv⟩,fun p i r hp f v hv=>⟨f,hv⟩,[],1,rfl,MY⟩
theorem MX.mono {e:Nat} (h:MX x V d) (hd:d<=e):MX x V e:=
 ⟨fun b o ho=>by
  obtain⟨m',b',hm,hb⟩:=h.run b o ho;exact⟨m',b',hm,fun i r=>⟨(hb i r).1,fun h6=>(hb i r).2 (by omega)⟩⟩,h.val,h.emp,h.tok⟩
theorem MA {W:Nat} (h:Rt x V d) (k:MX y W d):MX (x++124::y) (V+W) d:=by
 refine⟨fun b o ho=>?_,fun p i r hp f v hv=>?_,fun p i r hp f v hv=>?_,?_⟩
 ·obtain⟨b1,h1⟩:=h.run 0 b o (Or.inl rfl) ho;obtain⟨m2,b2,hm2,h2⟩:=k.run b1 o ho;refine⟨m2,b2,hm2,fun i r=>?_⟩;have e:(x++124::y)++r=x++(124::(y++r)):=by simp
  have el:i+(x++124::y).length=i+x.length+1+y.length:=by simp;omega
  rw[e,el];refine⟨by rw[(h1 i _).1,Rp (NB b1 o (Or.inr rfl)),(h2 _ r).1],fun h6=>by rw[(h1 i _).2 h6,Ro (NB b1 o (Or.inr rfl)) (by omega),(h2 _ r).2 h6]⟩
 ·have e:(x++124::y)++r=x++(124::(y++r)):=by simp
  have el:i+(x++124::y).length=i+x.length+1+y.length:=by simp;omega
  rw[e]at hp;rw[el];obtain⟨f1,h1⟩:=h.val p i _ hp f v hv;have hp2:p.drop (i+x.length)=124::(y++r):=by rw[<-List.drop_drop,hp,List.drop_left]
  obtain⟨f2,h2⟩:=XV hp2 (by decide) (by decide) (by decide) h1;have hp3:p.drop (i+x.length+1)=y++r:=by rw[<-List.drop_drop,hp2];rfl
  exact k.val p _ r hp3 f2 v h2
 ·have e:(x++124::y)++r=x++(124::(y++r)):=by simp
  have el:i+(x++124::y).length=i+x.length+1+y.length:=by simp;omega
  rw[e]at hp;rw[el];obtain⟨f1,h1⟩:=h.emp p i _ hp f v hv;have hp2:p.drop (i+x.length)=124::(y++r):=by rw[<-List.drop_drop,hp,List.drop_left]
  obtain⟨f2,h2⟩:=X3 hp2 (by decide) (by decide) h1;have hp3:p.drop (i+x.length+1)=y++r:=by rw[<-List.drop_drop,hp2];rfl
  exact k.emp p _ r hp3 f2 v h2
 ·obtain⟨ts,t1,_,t4⟩:=h.tok;obtain⟨us,F,u1,u2⟩:=k.tok;obtain⟨F2,hF⟩:=t4 (F+1) (Lp::us) W (Or.inr (Or.inl ⟨Lp,us,rfl,La,rfl,u2⟩)) (fun t r' e=>by rw[<-(List.cons.inj e).1];exact PP _ (by decide));exact⟨ts++Lp::us,F2,by rw[YA,Yo,t1,u1];rfl,by rw[Int.natCast_add];exact hF⟩
theorem UH {s:List UInt8} (k:MX x V d) (sf:List Tk) (hs:Yn sf=s) (hsf:sf=[]\/∃t,sf=[t]/\Xp t/\Yr t/\(t.kd=8->t.mo=1))
  (hrun:∀(b o:Int) (i:Nat) (r:List UInt8),0<=o->Rf.formFrom 1 b o i (s++r)=Rf.formFrom 1 b o (i+s.length) r/\(o<=6->Rf.deepFrom 1 b o i (s++r)=Rf.deepFrom 1 b o (i+s.length) r))
  (hval:∀(p:List UInt8) (i:Nat) (r:List UInt8),p.drop i=s++r->∀f v,Rf.valueFrom p f i=some v->∃f',Rf.valueFrom p f' (i+s.length)=some v)
  (hemp:∀(p:List UInt8) (i:Nat) (r:List UInt8),p.drop i=s++r->∀f v,Rf.emptyFrom p f i=some v->∃f',Rf.emptyFrom p f' (i+s.length)=some v):Rt (40::(x++41::s)) V (d+1):=by
 have e:∀r,(40::(x++41::s))++r=40::(x++(41::(s++r))):=fun r=>by simp
 have el:∀i,i+(40::(x++41::s)).length=i+1+x.length+1+s.length:=fun i=>by simp;omega
 refine⟨fun m b o hm ho=>?_,fun p i r hp f v hv=>?_,fun p i r hp f v hv=>?_,?_⟩
 ·obtain⟨m1,b1,hm1,h1⟩:=k.run b (o+1) (by omega);refine⟨b1,fun i r=>?_⟩;rw[e,el];obtain⟨r1,r2⟩:=hrun b1 o (i+1+x.length+1) r ho;have hcl:Rf.read m1 b1 (o+1) 41=⟨true,1,b1,o⟩:=by rw[NC b1 (o+1) hm1 (by omega)];simp
  refine⟨by rw[Rp (Pi b o hm),(h1 _ _).1,Rp hcl,r1],fun h6=>by rw[Ro (Pi b o hm) (by omega),(h1 _ _).2 (by omega),Ro hcl (by omega),r2 (by omega)]⟩
 ·rw[e]at hp;rw[el];obtain⟨f1,h1⟩:=XV hp (by decide) (by decide) (by decide) hv;have hp1:p.drop (i+1)=x++(41::(s++r)):=by rw[<-List.drop_drop,hp];rfl
  obtain⟨f2,h2⟩:=k.val p _ _ hp1 f1 v h1;have hp2:p.drop (i+1+x.length)=41::(s++r):=by rw[<-List.drop_drop,hp1,List.drop_left]
  obtain⟨f3,h3⟩:=XV hp2 (by decide) (by decide) (by decide) h2;have hp3:p.drop (i+1+x.length+1)=s++r:=by rw[<-List.drop_drop,hp2];rfl
  exact hval p _ r hp3 f3 v h3
 ·rw[e]at hp;rw[el];obtain⟨f1,h1⟩:=X3 hp (by decide) (by decide) hv;have hp1:p.drop (i+1)=x++(41::(s++r)):=by rw[<-List.drop_drop,hp];rfl
  obtain⟨f2,h2⟩:=k.emp p _ _ hp1 f1 v h1;have hp2:p.drop (i+1+x.length)=41::(s++r):=by rw[<-List.drop_drop,hp1,List.drop_left]
  obtain⟨f3,h3⟩:=X3 hp2 (by decide) (by decide) h2;have hp3:p.drop (i+1+x.length+1)=s++r:=by rw[<-List.drop_drop,hp2];rfl
  exact hemp p _ r hp3 f3 v h3
 ·obtain⟨us,F,u1,u2⟩:=k.tok;have hg:Is (F+1) false (Mg::(us++[Mf])) V:=Or.inr (Or.inl ⟨Mg,us,Mf,rfl,Lc,rfl,Lb,rfl,u2⟩);have hp:∃F',Is F' false ((Mg::(us++[Mf]))++sf) V:=by
   rcases hsf with h|⟨t,h,t1,t2,t3⟩
   ·exact⟨F+1,by rw[h,List.append_nil];exact hg⟩
   ·refine⟨F+2,Or.inr (Or.inr ⟨Mg::(us++[Mf]),t,V,by rw[h],hg,t1,t2,?_⟩)⟩;split
    ·rw[t3 (by assumption)];omega
    ·rfl
  obtain⟨F',hF'⟩:=hp;refine⟨(Mg::(us++[Mf]))++sf,by rw[YA,Yo,YA,u1,hs];simp[Mg,Mf,Yn],⟨Mg,(us++[Mf])++sf,rfl,PP _ (by decide)⟩,fun G r W hI hn=>?_⟩;exact⟨F'+G+1,Or.inr (Or.inr ⟨_,r,V,W,rfl,Wi hF' (by omega),Wi hI (by omega),rfl,hn⟩)⟩
end Go.Proofs.Ytoaaklhpmhjhkab
