import Derived.Test.YtoaaklhpmhjhkabC04
set_option maxRecDepth 100000
set_option maxHeartbeats 4000000
set_option linter.all false
namespace Go.Proofs.Ytoaaklhpmhjhkab
open Go.RowKit
def ND (w:List UInt8) (f:Nat->Bool):Prop:=
 (w=[46]/\∀b,b<256->f b=(b != 10)) \/
 (∃c v r0,w=c::r0/\c≠46/\c≠91/\c≠40/\(∀r,Rf.one (w++r)=some (v,w.length))/\∀b,b<256->f b=decide ((b:Int)=v)) \/
 (∃e,w=91::e/\∀r i,∃fa,Rf.set (e++r) i=some (i+(e.length+1),fa,f))
def Gj (w:List UInt8) (le:Int):Prop:=∃(x:UInt8) (r:List UInt8),w=123::x::r/\48<=(x.toNat:Int)/\(x.toNat:Int)<=57/\le=(x.toNat:Int)-48
theorem To {v:Int} (b:Nat):Pg.withF (fun _=>false) v v b=decide ((b:Int)=v):=by
 unfold Pg.withF;by_cases h:(b:Int)=v
 ·simp[h]
 ·have:¬(v<=(b:Int)/\(b:Int)<=v):=by omega
  simp only[Bool.false_or,h,decide_false];rcases Int.lt_or_le (b:Int) v with h1|h1
  ·simp[show ¬v<=(b:Int) by omega]
  ·simp[show ¬(b:Int)<=v by omega]
theorem LH (s:ByteArray) (k n:Nat) (c:UInt8) (r:List UInt8) (hd:s.data.toList.drop k=c::r) (h1:Pg.kindOf (Y5 s k)=1) (hok:(Pg.readPart (Y5 s) s.size k 1).ok=true) (hn:(Pg.readPart (Y5 s) s.size k 1).n=((k+n:Nat):Int)) (_hn2:k+n<=s.size):
  ND ((s.data.toList.drop k).take n) (Pg.readPart (Y5 s) s.size k 1).f:=by
 have hb:Y5 s (k:Int)=c.toNat:=by rw[US hd];rfl
 by_cases e91:c=91
 ·subst e91;have hb':Y5 s (k:Int)=91:=hb;have hP:Pg.readPart (Y5 s) s.size k 1=⟨(Pg.readSet (Y5 s) s.size k).n,(Pg.readSet (Y5 s) s.size k).ok,(Pg.readSet (Y5 s) s.size k).f,0,(Pg.readSet (Y5 s) s.size k).fa⟩:=by
   rw[Pg.readPart,if_pos rfl,Pg.readPlace,if_pos hb']
  rw[hP]at hok hn ⊢;rcases Tm s k r 0 0 0 (Or.inl rfl) hd with ⟨m,F,FA,g1,g2,g3,g4,_⟩|⟨g1,_⟩
  ·rw[g3]at hn ⊢;simp only at hn ⊢;have hm:m=k+n:=by omega
   refine Or.inr (Or.inr ⟨r.take (n-1),?_,fun r' i'=>?_⟩)
   ·rw[hd,show n=(n-1)+1 by omega,List.take_succ_cons];rfl
   ·obtain⟨fa,h⟩:=Qs g4 r' i';refine⟨fa,?_⟩;have hlen:r.length+1=s.size-k:=by
     have:(s.data.toList.drop k).length=s.size-k:=by simp
     rw[hd]at this;simpa using this
    rw[show m-k-1=n-1 by omega]at h;rw[h,List.length_take,show i'+(m-k)=i'+(min (n-1) r.length+1) by omega]
  ·rw[g1]at hok;cases hok
 by_cases e92:c=92
 ·subst e92;have hb':Y5 s (k:Int)=92:=hb;have hP:Pg.readPart (Y5 s) s.size k 1=⟨(Pg.readEscape (Y5 s) k).n,(Pg.readEscape (Y5 s) k).ok,Pg.withF (fun _=>false) (Pg.readEscape (Y5 s) k).v (Pg.readEscape (Y5 s) k).v,0,-1⟩:=by
   rw[Pg.readPart,if_pos rfl,Pg.readPlace,if_neg (by rw[hb'];decide),if_neg (by rw[hb'];decide),if_pos hb']
  rw[hP]at hok hn ⊢;rcases Uz s k r hd with ⟨m,v,g1,g3,g4,_⟩|⟨m,g1,_⟩
  ·rw[g1]at hn ⊢;simp only at hn ⊢;have hm:n=m+1:=by omega
   subst hm;refine Or.inr (Or.inl ⟨92,v,r.take m,by rw[hd,List.take_succ_cons],by decide,by decide,by decide,fun r'=>?_,fun b _=>To b⟩);rw[hd];have:=VK g3 r';rw[this];congr 2;simp;omega
  ·rw[g1]at hok;cases hok
 by_cases e46:c=46
 ·subst e46;have hb':Y5 s (k:Int)=46:=hb;have hP:Pg.readPart (Y5 s) s.size k 1=⟨(k:Int)+1,true,fun k=>!(Pg.withF (fun _=>false) 10 10 k),0,-1⟩:=by
   rw[Pg.readPart,if_pos rfl,Pg.readPlace,if_neg (by rw[hb'];decide),if_pos hb']
  rw[hP]at hn ⊢;simp only at hn ⊢;have hm:n=1:=by omega
  subst hm;refine Or.inl ⟨by rw[hd];rfl,fun b _=>?_⟩;show(!Pg.withF (fun _=>false) 10 10 b)=(b != 10);rw[To];by_cases h:b=10
  ·subst h;rfl
  ·have:¬(b:Int)=10:=by omega
   simp[h,this]
 ·have n91:=Yu e91;have n92:=Yu e92;have n46:=Yu e46;have hP:Pg.readPart (Y5 s) s.size k 1=⟨(k:Int)+1,true,Pg.withF (fun _=>false) (Y5 s k) (Y5 s k),0,-1⟩:=by
   rw[Pg.readPart,if_pos rfl,Pg.readPlace,if_neg (by rw[hb];exact n91),if_neg (by rw[hb];exact n46),if_neg (by rw[hb];exact n92)]
  rw[hP]at hn ⊢;simp only at hn ⊢;have hm:n=1:=by omega
  subst hm;have n40:c≠40:=fun e=>by
   subst e;rw[hb]at h1;exact absurd h1 (by decide)
  refine Or.inr (Or.inl ⟨c,c.toNat,[],by rw[hd];rfl,e46,e91,n40,fun r'=>?_,fun b _=>?_⟩)
  ·rw[hd];simp[Rf.one,e92]
  ·rw[hb];exact To b
theorem Jx (s:ByteArray) (k n:Nat) (_c:UInt8) (_r:List UInt8) (hw:V9 ((s.data.toList.drop k).take n) (Pg.readPart (Y5 s) s.size k 8).mo):Gj ((s.data.toList.drop k).take n) (Pg.digitValue (Y5 s ((k:Int)+1))):=by
 have key:∀(x:UInt8) (r':List UInt8),(s.data.toList.drop k).take n=123::x::r'->48<=(x.toNat:Int)->(x.toNat:Int)<=57->Gj ((s.data.toList.drop k).take n) (Pg.digitValue (Y5 s ((k:Int)+1))):=fun x r' he h1 h2=>by
  refine⟨x,r',he,h1,h2,?_⟩;have hx:(s.data.toList.drop k)[1]?=some x:=by
   have h3:((s.data.toList.drop k).take n)[1]?=some x:=by rw[he];rfl
   rw[List.getElem?_take]at h3;split at h3
   ·exact h3
   ·cases h3
  rw[NI rfl,at_,hx];simp only;rw[Pg.digitValue,if_pos ⟨h1,h2⟩]
 rcases hw with ⟨x,he,h1,h2,_⟩|⟨x,z,he,h1,h2,_⟩
 ·exact key x _ he h1 h2
 ·exact key x _ he h1 h2
structure Tq where
 t:Tk
 f:Nat->Bool
 le:Int
def Vf (q:Tq):Prop:=WS q.t/\(q.t.kd=1->ND q.t.w q.f)/\(q.t.kd=8->Gj q.t.w q.le)
def QT (s:ByteArray) (p:Pg.Pt) (q:Tq):Prop:=p.kd=q.t.kd/\p.mo=q.t.mo/\p.f=q.f/\(p.kd=8->Pg.digitValue (Y5 s (p.pl+1))=q.le)
inductive X9 {α β:Type} (R:α->β->Prop):List α->List β->Prop
 |nil:X9 R [] []
 |cons {a:α}{b:β}{l:List α}{m:List β} (h:R a b) (t:X9 R l m):X9 R (a::l) (b::m)
theorem Ki (s:ByteArray):∀(u k:Nat) (bf op:Int) (acc:List Pg.Pt),s.size<u+k->k<=s.size->(Pg.partsFrom (Y5 s) s.size u bf op k acc).ok=true ->
  ∃ps qs,(Pg.partsFrom (Y5 s) s.size u bf op k acc).ps=acc++ps/\Yg (qs.map Tq.t)=s.data.toList.drop k/\Jm (qs.map Tq.t) bf op/\(∀q∈qs,Vf q)/\X9 (QT s) ps qs:=by
 intro u
 induction u with
 |zero=>intro k bf op acc h1 h2;omega
 |succ u ih=>
  intro k bf op acc hu hk hok;rcases hd:s.data.toList.drop k with _|⟨c,r⟩
  ·have hks:k=s.size:=by
    have:s.size<=k:=by simpa using hd
    omega
   have hge:¬(k:Int)<(s.size:Int):=by omega
   rw[Pg.partsFrom,if_neg hge]at hok ⊢;exact⟨[],[],by simp,rfl,by simpa[Jm]using hok,by simp,X9.nil⟩
  ·have hlt:=XW hd;have hlti:(k:Int)<(s.size:Int):=by omega
   rw[Pg.partsFrom,if_pos hlti]at hok ⊢;cases hc:Pg.canStand (Pg.kindOf (Y5 s k)) bf op
   ·rw[hc]at hok;cases hok
   rw[hc]at hok;simp only[if_true]at hok ⊢;cases hp:(Pg.readPart (Y5 s) s.size k (Pg.kindOf (Y5 s k))).ok
   ·rw[hp]at hok;cases hok
   rw[hp]at hok;simp only[if_true]at hok ⊢;have h0:Pg.kindOf (Y5 s k)≠0:=by
    intro e;rw[e]at hc;simp[Pg.canStand]at hc
   obtain⟨n,n1,n2,n3,n4⟩:=Ij s k c r hd h0 hp;have hn3:=n3;rw[n3]at hok ⊢;obtain⟨ps,qs,g1,g2,g3,g4,g5⟩:=ih (k+n) _ _ _ (by omega) n2 hok;refine⟨_::ps,⟨⟨(s.data.toList.drop k).take n,Pg.kindOf (Y5 s k),(Pg.readPart (Y5 s) s.size k (Pg.kindOf (Y5 s k))).mo⟩,(Pg.readPart (Y5 s) s.size k (Pg.kindOf (Y5 s k))).f,Pg.digitValue (Y5 s ((k:Int)+1))⟩::qs,by rw[g1,List.append_assoc];rfl,?_,⟨n4,hc,g3⟩,?_,X9.cons ⟨rfl,rfl,rfl,fun _=>rfl⟩ g5⟩
   ·rw[List.map_cons,Yp,g2,<-hd,<-YT,List.take_append_drop]
   ·intro q hq;rcases List.mem_cons.1 hq with rfl|h
    ·refine⟨n4,fun h1=>?_,fun h8=>?_⟩
     ·simp only at h1 ⊢;rw[h1]at hp hn3 ⊢;exact LH s k n c r hd h1 hp hn3 n2
     ·simp only at h8 ⊢;have hw:=(Qj n4 h8).2;simp only at hw;rw[h8]at hw;exact Jx s k n c r hw
    ·exact g4 q h
def Pp:Nat->Nat->List Tq->Rx->Prop
 |0,_,_,_=>False
 |f+1,0,ts,e=>(∃q,ts=[q]/\Vf q/\q.t.kd=1/\e=.lit q.f) \/
   (∃a inn b e0,ts=a::(inn++[b])/\Vf a/\a.t.kd=2/\Vf b/\b.t.kd=3/\Pp f 2 inn e0/\e=e0.nz) \/
   (∃q t e0,ts=q++[t]/\Pp f 0 q e0/\Vf t/\Yr t.t/\e=(Rx.suf t.t.kd t.le.toNat t.t.mo.toNat e0).nz)
 |f+1,1,ts,e=>∃L:List (List Tq × Rx),ts=(L.map (·.1)).flatten/\(∀x∈L,Pp f 0 x.1 x.2)/\e=Rx.rowOf (L.map (·.2))
 |f+1,_,ts,e=>Pp f 1 ts e\/∃r b q e1 e2,ts=r++b::q/\Vf b/\b.t.kd=4/\Pp f 1 r e1/\Pp f 2 q e2/\e=.alt e1 e2
theorem Tv:∀(f k:Nat) (ts:List Tq) (e:Rx),Pp f k ts e->Pp (f+1) k ts e:=by
 intro f
 induction f with
 |zero=>intro k ts e h;exact absurd h (by simp[Pp])
 |succ f ih=>
  intro k ts e h;rcases k with _|_|k
  ·unfold Pp at h ⊢;rcases h with h|⟨a,inn,b,e0,h1,h2,h3,h4,h5,h6,h7⟩|⟨q,t,e0,h1,h2,h3⟩
   ·exact Or.inl h
   ·exact Or.inr (Or.inl ⟨a,inn,b,e0,h1,h2,h3,h4,h5,ih _ _ _ h6,h7⟩)
   ·exact Or.inr (Or.inr ⟨q,t,e0,h1,ih _ _ _ h2,h3⟩)
  ·unfold Pp at h ⊢;obtain⟨L,h1,h2,h3⟩:=h;exact⟨L,h1,fun x hx=>ih _ _ _ (h2 x hx),h3⟩
  ·unfold Pp at h ⊢;rcases h with h|⟨r,b,q,e1,e2,h1,h2,h3,h4,h5,h6⟩
   ·exact Or.inl (ih _ _ _ h)
   ·exact Or.inr ⟨r,b,q,e1,e2,h1,h2,h3,ih _ _ _ h4,ih _ _ _ h5,h6⟩
variable {ts : List Tq}{b g k n : Nat}{E : Nat → Nat → Bool}{e : Rx}
theorem Pe {f:Nat} (h:Pp f k ts e) (hfg:f<=g):Pp g k ts e:=by
 induction g with
 |zero=>
   have:f=0:=by omega
   subst this;exact h
 |succ g ih=>
  by_cases e:f=g+1
  ·subst e;exact h
  ·exact Tv _ _ _ _ (ih (by omega))
variable {e2 : Rx}
theorem Jj {f:Nat}{p r:List Tq}{e1:Rx} (h1:Pp f 0 p e1) (h2:Pp f 2 r e2):∃e,Pp (f+2) 2 (p++r) e:=by
 have row:∀(f:Nat) (r:List Tq) (e2:Rx),Pp f 0 p e1->Pp f 1 r e2->∃e,Pp (f+1) 1 (p++r) e:=fun f r e2 h1 h2=>by
  rcases f with _|f
  ·exact absurd h1 (by simp[Pp])
  obtain⟨L,g1,g2,_⟩:=h2;refine⟨_,(p,e1)::L,by rw[g1];simp,fun x hx=>?_,rfl⟩;rcases List.mem_cons.1 hx with rfl|hx
  ·exact h1
  ·exact Tv _ _ _ _ (g2 x hx)
 rcases f with _|f
 ·exact absurd h1 (by simp[Pp])
 rcases h2 with h|⟨r1,b,q,e3,e4,k1,k2,k3,k4,k5,_⟩
 ·obtain⟨e,he⟩:=row (f+1) r e2 h1 (Tv _ _ _ _ h);exact⟨e,Or.inl he⟩
 ·obtain⟨e,he⟩:=row (f+1) r1 e3 h1 (Tv _ _ _ _ k4);exact⟨_,Or.inr ⟨p++r1,b,q,e,e4,by rw[k1];simp,k2,k3,he,Pe k5 (by omega),rfl⟩⟩
theorem VI {a b:List Tk} (h:ts.map Tq.t=a++b):∃x y,ts=x++y/\x.map Tq.t=a/\y.map Tq.t=b:=by
 refine⟨ts.take a.length,ts.drop a.length,(List.take_append_drop _ _).symm,?_,?_⟩
 ·rw[List.map_take,h,List.take_left'];rfl
 ·rw[List.map_drop,h,List.drop_left'];rfl
theorem Jk:∀(f:Nat) (g:Bool) (ts:List Tq) (V:Int),(∀q∈ts,Vf q)->Is f g (ts.map Tq.t) V->∃F e,Pp F (if g then 2 else 0) ts e:=by
 intro f
 induction f with
 |zero=>intro g ts V _ h;exact absurd h (by simp[Is])
 |succ f ih=>
  intro g ts V hq h;cases g
  ·unfold Is at h;rcases h with ⟨t,h1,h2,h3,_⟩|⟨a,inn,b,h1,h2,h3,h4,h5,h6⟩|⟨q,t,A,h1,h2,h3,h4,_⟩
   ·rcases ts with _|⟨q,_|⟨q2,ts⟩⟩
    ·simp at h1
    ·simp at h1;exact⟨1,.lit q.f,Or.inl ⟨q,rfl,hq q (by simp),by rw[h1];exact h3,rfl⟩⟩
    ·simp at h1
   ·obtain⟨x,y,e1,e2,e3⟩:=VI (a:=[a]) (b:=inn++[b]) (by rw[h1];rfl);obtain⟨y1,y2,e4,e5,e6⟩:=VI e3;rcases x with _|⟨x,_|⟨x2,xs⟩⟩
    ·simp at e2
    rotate_left
    ·simp at e2
    rcases y2 with _|⟨z,_|⟨z2,zs⟩⟩
    ·simp at e6
    rotate_left
    ·simp at e6
    simp at e2 e6;obtain⟨F,e,hP⟩:=ih true y1 V (fun q hx=>hq q (by rw[e1,e4];simp[hx])) (by rw[e5];exact h6);exact⟨F+1,e.nz,Or.inr (Or.inl ⟨x,y1,z,e,by rw[e1,e4];rfl,hq x (by rw[e1];simp),by rw[e2];exact h3,hq z (by rw[e1,e4];simp),by rw[e6];exact h5,hP,rfl⟩)⟩
   ·obtain⟨x,y,e1,e2,e3⟩:=VI h1;rcases y with _|⟨z,_|⟨z2,zs⟩⟩
    ·simp at e3
    rotate_left
    ·simp at e3
    simp at e3;obtain⟨F,e,hP⟩:=ih false x A (fun q hx=>hq q (by rw[e1];simp[hx])) (by rw[e2];exact h2);exact⟨F+1,_,Or.inr (Or.inr ⟨x,z,e,e1,hP,hq z (by rw[e1];simp),by rw[e3];exact h4,rfl⟩)⟩
  ·unfold Is at h;rcases h with ⟨h1,_⟩|⟨t,r,h1,h2,h3,h4⟩|⟨p,r,A,B,h1,h2,h3,_,_⟩
   ·have:ts=[]:=by simpa using h1
    subst this;exact⟨2,Rx.rowOf [],Or.inl ⟨[],rfl,by simp,rfl⟩⟩
   ·obtain⟨x,y,e1,e2,e3⟩:=VI (a:=[t]) (b:=r) (by rw[h1];rfl);rcases x with _|⟨x,_|⟨x2,xs⟩⟩
    ·simp at e2
    rotate_left
    ·simp at e2
    simp at e2;obtain⟨F,e,hP⟩:=ih true y V (fun q hx=>hq q (by rw[e1];simp[hx])) (by rw[e3];exact h4);exact⟨F+2,_,Or.inr ⟨[],x,y,Rx.rowOf [],e,by rw[e1];rfl,hq x (by rw[e1];simp),by rw[e2];exact h3,⟨[],rfl,by simp,rfl⟩,Tv _ _ _ _ hP,rfl⟩⟩
   ·obtain⟨x,y,e1,e2,e3⟩:=VI h1;obtain⟨F1,f1,hP1⟩:=ih false x A (fun q hx=>hq q (by rw[e1];simp[hx])) (by rw[e2];exact h2);obtain⟨F2,f2,hP2⟩:=ih true y B (fun q hx=>hq q (by rw[e1];simp[hx])) (by rw[e3];exact h3);obtain⟨e,he⟩:=Jj (Pe hP1 (Nat.le_max_left F1 F2)) (Pe hP2 (Nat.le_max_right F1 F2));exact⟨_,e,by rw[e1];exact he⟩
theorem LR (s:ByteArray) (h:(Pg.readParts (Y5 s) s.size).ok=true):∃qs f e,Yg (qs.map Tq.t)=s.data.toList/\(∀q∈qs,Vf q)/\X9 (QT s) (Pg.readParts (Y5 s) s.size).ps qs/\Pp f 2 qs e:=by
 unfold Pg.readParts at h ⊢;obtain⟨ps,qs,h1,h2,h3,h4,h5⟩:=Ki s ((s.size:Int).toNat+1) 0 0 0 [] (by omega) (by omega) h;have hns:∀t r,qs.map Tq.t=t::r->¬Yr t:=by
  intro t r e hs;rw[e]at h3;have:=h3.2.1;unfold Yr at hs;simp[Pg.canStand,Pg.endsPiece,Pg.isSuffix]at this;rcases hs with h|h|h|h<;>simp[h]at this
 obtain⟨f,inn,rest,V,g1,g2,g3⟩:=Ih (qs.map Tq.t).length (qs.map Tq.t) 0 0 (Nat.le_refl _) (Int.le_refl _) h3 hns;have hrest:rest=[]:=by
  rcases g3 with ⟨h,_⟩|⟨b,r,_,_,_,h,_⟩
  ·exact h
  ·omega
 rw[hrest,List.append_nil]at g1;obtain⟨F,e,hP⟩:=Jk f true qs V h4 (by rw[g1];exact g2);have h1':(Pg.partsFrom (Y5 s) (s.size:Int) ((s.size:Int).toNat+1) 0 0 0 []).ps=ps:=by
  have:=h1;rw[List.nil_append]at this;exact this
 refine⟨qs,F,e,by rw[h2];rfl,h4,?_,hP⟩;rw[h1'];exact h5
theorem H9 {t:Tk} (h3:WS t) (h4:Yr t) (le:Nat) (e0:Rx):((Rx.suf t.kd le t.mo.toNat e0).sz:Int)=if t.kd=8 then (e0.sz:Int)*t.mo else e0.sz:=by
 unfold Rx.suf;unfold Yr at h4;by_cases h8:t.kd=8
 ·rw[if_neg (by omega),if_neg (by omega),if_neg (by omega),if_pos h8,Rx.copies_sz];have:=(Qj h3 h8).1;rw[Int.natCast_mul,Int.mul_comm,Int.toNat_of_nonneg this]
 ·rw[if_neg h8];by_cases h5:t.kd=5
  ·rw[if_pos h5];rfl
  ·rw[if_neg h5];by_cases h6:t.kd=6
   ·rw[if_pos h6];rfl
   ·rw[if_neg h6,if_pos (by omega)];rfl
theorem QQ:∀(f k:Nat) (ts:List Tq) (e:Rx),Pp f k ts e->(∀q∈ts,Vf q)/\∃F,(k=0->Is F false (ts.map Tq.t) e.sz/\∃q r,ts=q::r/\(q.t.kd=1\/q.t.kd=2))/\(k=1->∀G r V,Is G true r V->(∀t r',r=t::r'->¬Yr t)->∃F',Is F' true (ts.map Tq.t++r) (e.sz+V))/\(2<=k->Is F true (ts.map Tq.t) e.sz):=by
 intro f
 induction f with
 |zero=>intro k ts e h;exact absurd h (by simp[Pp])
 |succ f ih=>
  intro k ts e h;rcases k with _|_|k
  ·unfold Pp at h;rcases h with ⟨q,rfl,h2,h3,rfl⟩|⟨a,inn,b,e0,rfl,h2,h3,h4,h5,h6,rfl⟩|⟨q,t,e0,rfl,h2,h3,h4,rfl⟩
   ·exact⟨by simpa using h2,1,fun _=>⟨Or.inl ⟨q.t,rfl,h2.1,h3,rfl⟩,q,[],rfl,Or.inl h3⟩,(fun h=>by omega),fun h=>by omega⟩
   ·obtain⟨k1,F,_,_,k3⟩:=ih 2 inn e0 h6;refine⟨fun q hq=>?_,F+1,fun _=>⟨Or.inr (Or.inl ⟨a.t,inn.map Tq.t,b.t,by simp,h2.1,h3,h4.1,h5,by rw[Rx.nz_sz];exact k3 (by omega)⟩),a,_,rfl,Or.inr h3⟩,(fun h=>by omega),fun h=>by omega⟩;simp only[List.mem_cons,List.mem_append,List.not_mem_nil,or_false]at hq;rcases hq with rfl|hq|rfl
    ·exact h2
    ·exact k1 q hq
    ·exact h4
   ·obtain⟨k1,F,k2,_,_⟩:=ih 0 q e0 h2;obtain⟨k2,q0,r0,k4,k5⟩:=k2 rfl;refine⟨fun x hx=>?_,F+1,fun _=>⟨Or.inr (Or.inr ⟨q.map Tq.t,t.t,_,by simp,k2,h3.1,h4,?_⟩),q0,r0++[t],by rw[k4];rfl,k5⟩,(fun h=>by omega),fun h=>by omega⟩
    ·rcases List.mem_append.1 hx with h|h
     ·exact k1 x h
     ·rw[List.mem_singleton.1 h];exact h3
    ·rw[Rx.nz_sz];exact H9 h3.1 h4 _ _
  ·unfold Pp at h;obtain⟨L,rfl,h2,rfl⟩:=h;refine⟨fun q hq=>?_,0,(fun h=>by omega),fun _=>?_,fun h=>by omega⟩
   ·obtain⟨l,hl,hql⟩:=List.mem_flatten.1 hq;obtain⟨x,hx,rfl⟩:=List.mem_map.1 hl;exact(ih 0 x.1 x.2 (h2 x hx)).1 q hql
   ·intro G r V hG hns
    induction L with
    |nil=>exact⟨G,by simpa[Rx.rowOf,Rx.sz]using hG⟩
    |cons x L ihL=>
     obtain⟨F',hF'⟩:=ihL (fun y hy=>h2 y (by simp[hy]));obtain⟨_,F1,k2,_,_⟩:=ih 0 x.1 x.2 (h2 x (by simp));obtain⟨k2,_⟩:=k2 rfl;refine⟨max F1 F'+1,?_⟩;rw[Rx.rowOf_sz];rw[Rx.rowOf_sz]at hF';refine Or.inr (Or.inr ⟨x.1.map Tq.t,_,_,_,?_,Wp k2 (Nat.le_max_left _ _),Wp hF' (Nat.le_max_right _ _),?_,?_⟩)
     ·simp
     ·simp;omega
     ·intro t r' he;rcases L with _|⟨y,L⟩
      ·exact hns t r' (by simpa using he)
      ·obtain⟨_,_,k3,_,_⟩:=ih 0 y.1 y.2 (h2 y (by simp));obtain⟨_,q,r2,k4,k5⟩:=k3 rfl;have:q.t=t:=by
        rw[List.map_cons,List.flatten_cons]at he;rw[show(y.1)=q::r2 from k4]at he;simp at he;exact he.1
       rw[<-this];unfold Yr;omega
  ·unfold Pp at h;rcases h with h|⟨r,b,q,e1,e2,rfl,h2,h3,h4,h5,rfl⟩
   ·obtain⟨k1,F,_,k2,_⟩:=ih 1 ts e h;obtain⟨F',hF⟩:=k2 rfl 1 [] 0 (Or.inl ⟨rfl,rfl⟩) (by simp);exact⟨k1,F',(fun h=>by omega),(fun h=>by omega),fun _=>by simpa using hF⟩
   ·obtain⟨k1,F,_,k2,_⟩:=ih 1 r e1 h4;obtain⟨k3,F2,_,_,k4⟩:=ih 2 q e2 h5;have hb:Is (F2+1) true (b.t::q.map Tq.t) e2.sz:=Or.inr (Or.inl ⟨b.t,_,rfl,h2.1,h3,k4 (by omega)⟩);obtain⟨F',hF⟩:=k2 rfl _ _ _ hb (by
     intro t r' he;cases he;unfold Yr;omega)
    refine⟨fun x hx=>?_,F',(fun h=>by omega),(fun h=>by omega),fun _=>?_⟩
    ·simp only[List.mem_append,List.mem_cons]at hx;rcases hx with h|rfl|h
     ·exact k1 x h
     ·exact h2
     ·exact k3 x h
    ·have:((Rx.alt e1 e2).sz:Int)=(e1.sz:Int)+(e2.sz:Int):=by simp[Rx.sz]
     rw[this,List.map_append,List.map_cons];exact hF
def So:List Int->Int->Nat->Nat
 |[],_,i=>i
 |k::ks,op,i=>if k=4/\op=0 then i else So ks (op+Pg.opn k) (i+1)
def VV:List Int->Int->Nat->Nat
 |[],_,i=>i
 |k::ks,op,i=>if op+Pg.opn k=0 then i+1 else VV ks (op+Pg.opn k) (i+1)
def kds (ts:List Tq):List Int:=ts.map fun q=>q.t.kd
theorem Wf (a b:List Tq):kds (a++b)=kds a++kds b:=by simp[kds]
theorem Se (a:List Tq):(kds a).length=a.length:=by simp[kds]
theorem IJ {k:Int} (h:k=5\/k=6\/k=7\/k=8):Pg.opn k=0:=by unfold Pg.opn;rw[if_neg (by omega),if_neg (by omega)]
theorem NT:∀(f k:Nat) (ts:List Tq) (e:Rx),Pp f k ts e ->
  (∀(op:Int) (i:Nat) (rest:List Int),1<=op->VV (kds ts++rest) op i=VV rest op (i+ts.length)) /\
  (∀(op:Int) (i:Nat) (rest:List Int),1<=op\/(op=0/\k<=1)->So (kds ts++rest) op i=So rest op (i+ts.length)) /\
  (k=0->∃m,1<=m/\m<=ts.length/\(∀i rest,VV (kds ts++rest) 0 i=i+m)/\∀q∈ts.drop m,Yr q.t):=by
 intro f
 induction f with
 |zero=>intro k ts e h;exact absurd h (by simp[Pp])
 |succ f ih=>
  intro k ts e h;rcases k with _|_|k
  ·unfold Pp at h;rcases h with ⟨q,rfl,h2,h3,rfl⟩|⟨a,inn,b,e0,rfl,h2,h3,h4,h5,h6,rfl⟩|⟨q,t,e0,rfl,h2,h3,h4,rfl⟩
   ·have ho:Pg.opn q.t.kd=0:=by rw[h3];rfl
    refine⟨fun op i rest hop=>?_,fun op i rest hop=>?_,fun _=>⟨1,by omega,by simp,fun i rest=>?_,by simp⟩⟩
    ·simp only[kds,List.map_cons,List.map_nil,List.cons_append,List.nil_append,VV,ho,Int.add_zero];rw[if_neg (by omega)];rfl
    ·simp only[kds,List.map_cons,List.map_nil,List.cons_append,List.nil_append,So,ho,Int.add_zero];rw[if_neg (by omega)];rfl
    ·simp[kds,VV,ho]
   ·obtain⟨i1,i2,_⟩:=ih 2 inn e0 h6;have ha:Pg.opn a.t.kd=1:=by rw[h3];rfl
    have hb:Pg.opn b.t.kd=-1:=by rw[h5];rfl
    have hk:kds (a::(inn++[b]))=a.t.kd::(kds inn++[b.t.kd]):=by simp[kds]
    have hl:(a::(inn++[b])).length=inn.length+2:=by simp
    refine⟨fun op i rest hop=>?_,fun op i rest hop=>?_,fun _=>⟨inn.length+2,by omega,by simp,fun i rest=>?_,fun q hq=>?_⟩⟩
    ·rw[hk,List.cons_append,VV,ha,if_neg (by omega),List.append_assoc,i1 _ _ _ (by omega),List.singleton_append,VV,hb,if_neg (by omega),hl];congr 1<;>omega
    ·rw[hk,List.cons_append,So,ha,if_neg (by omega),List.append_assoc,i2 _ _ _ (Or.inl (by omega)),List.singleton_append,So,hb,if_neg (by omega),hl];congr 1<;>omega
    ·rw[hk,List.cons_append,VV,ha,if_neg (by omega),List.append_assoc,i1 _ _ _ (by omega),List.singleton_append,VV,hb,if_pos (by omega)];omega
    ·rw[List.drop_of_length_le (by rw[hl];omega)]at hq;cases hq
   ·obtain⟨i1,i2,i3⟩:=ih 0 q e0 h2;obtain⟨m,m1,m2,m3,m4⟩:=i3 rfl;have ho:Pg.opn t.t.kd=0:=IJ (by unfold Yr at h4;omega);have h4':t.t.kd≠4:=by unfold Yr at h4;omega
    have hk:kds (q++[t])=kds q++[t.t.kd]:=by simp[kds]
    have hl:(q++[t]).length=q.length+1:=by simp
    refine⟨fun op i rest hop=>?_,fun op i rest hop=>?_,fun _=>⟨m,m1,by omega,fun i rest=>?_,fun x hx=>?_⟩⟩
    ·rw[hk,List.append_assoc,i1 _ _ _ hop,List.singleton_append,VV,ho,if_neg (by omega),hl];congr 1;omega
    ·rw[hk,List.append_assoc,i2 _ _ _ hop,List.singleton_append,So,ho,if_neg (by omega),hl];congr 1;omega
    ·rw[hk,List.append_assoc];exact m3 _ _
    ·rw[List.drop_append_of_le_length m2]at hx;rcases List.mem_append.1 hx with h|h
     ·exact m4 x h
     ·rw[List.mem_singleton.1 h];exact h4
  ·unfold Pp at h;obtain⟨L,rfl,h2,rfl⟩:=h;refine⟨fun op i rest hop=>?_,fun op i rest hop=>?_,fun h=>by omega⟩
   ·induction L generalizing i with
    |nil=>simp[kds]
    |cons x L ihL=>
     obtain⟨i1,_,_⟩:=ih 0 x.1 x.2 (h2 x (by simp));have:=ihL (fun y hy=>h2 y (by simp[hy])) (i+x.1.length);rw[List.map_cons,List.flatten_cons,Wf,List.append_assoc,i1 _ _ _ hop,this,List.length_append];congr 1;omega
   ·induction L generalizing i with
    |nil=>simp[kds]
    |cons x L ihL=>
     obtain⟨_,i2,_⟩:=ih 0 x.1 x.2 (h2 x (by simp));have:=ihL (fun y hy=>h2 y (by simp[hy])) (i+x.1.length);rw[List.map_cons,List.flatten_cons,Wf,List.append_assoc,i2 _ _ _ (by omega),this,List.length_append];congr 1;omega
  ·unfold Pp at h;rcases h with h|⟨r,b,q,e1,e2,rfl,h2,h3,h4,h5,rfl⟩
   ·obtain⟨i1,i2,_⟩:=ih 1 ts e h;exact⟨i1,fun op i rest hop=>i2 op i rest (by omega),fun h=>by omega⟩
   ·obtain⟨i1,i2,_⟩:=ih 1 r e1 h4;obtain⟨j1,j2,_⟩:=ih 2 q e2 h5;have ho:Pg.opn b.t.kd=0:=by rw[h3];rfl
    have hk:kds (r++b::q)=kds r++(b.t.kd::kds q):=by simp[kds]
    have hl:(r++b::q).length=r.length+1+q.length:=by simp;omega
    refine⟨fun op i rest hop=>?_,fun op i rest hop=>?_,fun h=>by omega⟩
    ·rw[hk,List.append_assoc,i1 _ _ _ hop,List.cons_append,VV,ho,if_neg (by omega),Int.add_zero,j1 _ _ _ hop,hl];congr 1;omega
    ·rw[hk,List.append_assoc,i2 _ _ _ (by omega),List.cons_append,So,ho,if_neg (by omega),Int.add_zero,j2 _ _ _ (by omega),hl];congr 1;omega
def Sm (p:Pg.Pt) (q:Tq):Prop:=p.kd=q.t.kd/\p.mo=q.t.mo/\p.f=q.f/\(p.kd=8->p.le=q.le)
theorem X9.len {α β:Type}{R:α->β->Prop}{l:List α}{m:List β} (h:X9 R l m):l.length=m.length:=by
 induction h with
 |nil=>rfl
 |cons h t ih=>simp[ih]
theorem X9.split {α β:Type}{R:α->β->Prop}:∀(a:List β) (b:List β) (l:List α),X9 R l (a++b)->X9 R (l.take a.length) a/\X9 R (l.drop a.length) b
 |[],b,l,h=>⟨by simpa using X9.nil,by simpa using h⟩
 |x::a,b,l,h=>by
  cases h with
  |cons h t=>
   obtain⟨h1,h2⟩:=X9.split a b _ t;exact⟨by simpa using X9.cons h h1,by simpa using h2⟩
theorem X9.kds {ps:List Pg.Pt}{ts:List Tq} (h:X9 Sm ps ts):ps.map (fun p=>p.kd)=kds ts:=by
 induction h with
 |nil=>rfl
 |cons h t ih=>
  simp only[List.map_cons,ih,Go.Proofs.Ytoaaklhpmhjhkab.kds];rw[h.1]
theorem X9.two {ps:List Pg.Pt} (h:X9 Sm ps ts):ps.map (fun p=>(p.kd,p.mo))=(ts.map Tq.t).map (fun t=>(t.kd,t.mo)):=by
 induction h with
 |nil=>rfl
 |cons h t ih=>simp only[List.map_cons,ih];rw[h.1,h.2.1]
theorem NQ {f:Nat}{ps:List Pg.Pt} (h:Pp f 0 ts e) (hb:X9 Sm ps ts):Pg.countPlaces ps=Pg.capped e.sz:=by
 obtain⟨_,F,k2,_,_⟩:=QQ f 0 ts e h;obtain⟨hI,_⟩:=k2 rfl;obtain⟨hV,hF,_⟩:=machine F false (ts.map Tq.t) e.sz hI;have e1:=hF rfl ⟨0,0,[]⟩ (by simp) (by simp);rw[Pg.countPlaces,TY ps ((ts.map Tq.t).map Ws) (by rw[hb.two];simp[Ws]),e1];simp only;have h0:Pg.capped (0+0)=0:=rfl;have h1:=Vn (a:=(e.sz:Int)) (b:=0) hV (by omega);rw[h0,show(0:Int)+Pg.capped (e.sz:Int)=Pg.capped (e.sz:Int)+0 by omega,h1];simp
theorem NM:Pg.capped (n:Int)=0<->n=0:=by rw[WG];split<;>omega
theorem OW (s:ByteArray) (h:(Pg.readParts (Y5 s) s.size).ok=true):∃e qs f,Yg (qs.map Tq.t)=s.data.toList/\(∀q∈qs,Vf q)/\X9 (QT s) (Pg.readParts (Y5 s) s.size).ps qs/\Pp f 2 qs e:=by
 obtain⟨qs,f,e,h1,h2,h3,h4⟩:=LR s h;exact⟨e,qs,f,h1,h2,h3,h4⟩
open Classical in
noncomputable def VM (s:ByteArray):Rx:=if h:(Pg.readParts (Y5 s) s.size).ok=true then Classical.choose (OW s h) else .eps
theorem UG (s:ByteArray) (h:(Pg.readParts (Y5 s) s.size).ok=true):∃qs f,Yg (qs.map Tq.t)=s.data.toList/\(∀q∈qs,Vf q)/\X9 (QT s) (Pg.readParts (Y5 s) s.size).ps qs/\Pp f 2 qs (VM s):=by
 have:=Classical.choose_spec (OW s h);unfold VM;rw[dif_pos h];exact this
theorem X9.twoP {s:ByteArray}{ps:List Pg.Pt} (h:X9 (QT s) ps ts):ps.map (fun p=>(p.kd,p.mo))=(ts.map Tq.t).map (fun t=>(t.kd,t.mo)):=by
 induction h with
 |nil=>rfl
 |cons h t ih=>simp only[List.map_cons,ih];rw[h.1,h.2.1]
theorem Qv {f:Nat}{ps:List Pg.Pt} (h:Pp f 2 ts e) (hb:ps.map (fun p=>(p.kd,p.mo))=(ts.map Tq.t).map (fun t=>(t.kd,t.mo))):Pg.countPlaces ps=Pg.capped e.sz:=by
 obtain⟨_,F,_,_,k2⟩:=QQ f 2 ts e h;have hI:=k2 (Nat.le_refl _);obtain⟨hV,_,hT⟩:=machine F true (ts.map Tq.t) e.sz hI;obtain⟨ah,la,e1,_,_,e4⟩:=hT rfl ⟨0,0,[]⟩ (by simp) (by simp);rw[Pg.countPlaces,TY ps ((ts.map Tq.t).map Ws) (by rw[hb];simp[Ws]),e1];simp only;rw[e4];simp
theorem Tf (s:ByteArray) (h:(Pg.readParts (Y5 s) s.size).ok=true):Pg.countPlaces (Pg.readParts (Y5 s) s.size).ps=Pg.capped (VM s).sz:=by
 obtain⟨qs,f,_,_,h3,h4⟩:=UG s h;exact Qv h4 h3.twoP
def YR (es:Nat->Rx):Nat->Nat
 |0=>0
 |k+1=>YR es k+(es k).sz
theorem X0 (es:Nat->Rx) {a b:Nat} (h:a<=b):YR es a<=YR es b:=by
 induction b with
 |zero=>
   have:a=0:=by omega
   subst this;exact Nat.le_refl _
 |succ b ih=>
  by_cases e:a=b+1
  ·subst e;exact Nat.le_refl _
  ·have:=ih (by omega);simp only[YR];omega
theorem Py (es:Nat->Rx) (u:Nat->Int):∀n,(∀i,i<n->u i=Pg.capped (es i).sz)->¬96<XV u n->XV u n=(YR es n:Int)/\YR es n<=96:=by
 intro n hu hs;have h2:=(MB (u:=u) (v:=fun i=>((es i).sz:Int)) n (fun i hi=>⟨by omega,hu i hi⟩));have h3:∀m,XV (fun i=>((es i).sz:Int)) m=(YR es m:Int):=by
  intro m
  induction m with
  |zero=>rfl
  |succ m ih=>simp only[XV,YR,ih];omega
 rw[h3]at h2;have h4:¬96<(YR es n:Int):=fun h=>hs (h2.1.2 h)
 have h5:=h2.2 h4;exact⟨h5,by omega⟩
end Go.Proofs.Ytoaaklhpmhjhkab
namespace Go.Proofs.Ytoaaklhpmhjhkab
open Go.RowKit
abbrev Ln:=List Nat->Prop
def Ep:Ln:=fun w=>w=[]
def Un (L M:Ln):Ln:=fun w=>L w\/M w
def No:Ln:=fun _=>False
def Op (L:Ln):Ln:=fun w=>w=[]\/L w
def Li (f:Nat->Bool):Ln:=fun w=>∃b,w=[b]/\b<256/\f b=true
theorem XI {L M:Ln} (h:∀w,L w<->M w):L=M:=funext fun w=>propext (h w)
theorem XO (L:Ln):Cc L Ep=L:=XI fun w=>⟨fun⟨u,v,e,hu,hv⟩=>by
 have:v=[]:=hv;subst this;rw[List.append_nil]at e;rw[e];exact hu,fun h=>⟨w,[],by simp,h,rfl⟩⟩
theorem Xr (L:Ln):Cc Ep L=L:=XI fun w=>⟨fun⟨u,v,e,hu,hv⟩=>by
 have:u=[]:=hu;subst this;rw[List.nil_append]at e;rw[e];exact hv,fun h=>⟨[],w,by simp,rfl,h⟩⟩
theorem Q0 (L M N:Ln):Cc (Cc L M) N=Cc L (Cc M N):=XI fun w=>by
 constructor
 ·rintro ⟨u,v,e,⟨x,y,e2,hx,hy⟩,hv⟩;exact⟨x,y++v,by rw[e,e2,List.append_assoc],hx,y,v,rfl,hy,hv⟩
 ·rintro ⟨u,v,e,hu,x,y,e2,hx,hy⟩;exact⟨u++x,y,by rw[e,e2,List.append_assoc],⟨u,x,rfl,hu,hx⟩,hy⟩
theorem Xs (L:Ln):Un No L=L:=XI fun w=>by simp[Un,No]
theorem KM (L M N:Ln):Un (Un L M) N=Un L (Un M N):=XI fun w=>by simp[Un,or_assoc]
namespace Rx
def Lq:Rx->Ln
 |eps=>Ep
 |lit f=>Li f
 |cat a b=>Cc a.Lq b.Lq
 |alt a b=>Un a.Lq b.Lq
 |star a=>St a.Lq
 |plus a=>Cc a.Lq (St a.Lq)
 |opt a=>Op a.Lq
theorem st_bytes {L M:Ln} (h:∀w,L w<->M w/\∀b∈w,b<256) (w:List Nat):St L w<->St M w/\∀b∈w,b<256:=by
 constructor
 ·intro k
  induction k with
  |nil=>exact⟨.nil,fun b hb=>by simp at hb⟩
  |cons h1 _ ih=>
   have h2:=(h _).1 h1;exact⟨.cons h2.1 ih.1,fun b hb=>by
    rcases List.mem_append.1 hb with hb|hb
    ·exact h2.2 b hb
    ·exact ih.2 b hb⟩
 ·rintro ⟨k,hb⟩
  induction k with
  |nil=>exact .nil
  |cons h1 _ ih=>exact .cons ((h _).2 ⟨h1,fun b hb'=>hb b (by simp[hb'])⟩) (ih (fun b hb'=>hb b (by simp[hb'])))
theorem cc_bytes {L M L' M':Ln} (h:∀w,L w<->L' w/\∀b∈w,b<256) (k:∀w,M w<->M' w/\∀b∈w,b<256) (w:List Nat):Cc L M w<->Cc L' M' w/\∀b∈w,b<256:=by
 constructor
 ·rintro ⟨u,v,e,hu,hv⟩;have h1:=(h u).1 hu;have h2:=(k v).1 hv;refine⟨⟨u,v,e,h1.1,h2.1⟩,fun b hb=>?_⟩;rw[e]at hb;rcases List.mem_append.1 hb with hb|hb
  ·exact h1.2 b hb
  ·exact h2.2 b hb
 ·rintro ⟨⟨u,v,e,hu,hv⟩,hb⟩;exact⟨u,v,e,(h u).2 ⟨hu,fun b hb'=>hb b (by rw[e];simp[hb'])⟩,(k v).2 ⟨hv,fun b hb'=>hb b (by rw[e];simp[hb'])⟩⟩
theorem lq_lg:∀(e:Rx) (w:List Nat),e.Lq w<->e.Lg w/\∀b∈w,b<256
 |eps,w=>⟨fun h=>⟨h,fun b hb=>by
   have:w=[]:=h;rw[this]at hb;simp at hb⟩,fun h=>h.1⟩
 |lit f,w=>by
  constructor
  ·rintro ⟨b,e,hb,hf⟩;exact⟨⟨b,e,hf⟩,fun c hc=>by rw[e]at hc;simp at hc;omega⟩
  ·rintro ⟨⟨b,e,hf⟩,hb⟩;exact⟨b,e,hb b (by simp[e]),hf⟩
 |cat a b,w=>cc_bytes (lq_lg a) (lq_lg b) w
 |alt a b,w=>by
  have h1:=lq_lg a w;have h2:=lq_lg b w;show a.Lq w\/b.Lq w<->(a.Lg w\/b.Lg w)/\_;rw[h1,h2];constructor
  ·rintro (h|h)
   ·exact⟨Or.inl h.1,h.2⟩
   ·exact⟨Or.inr h.1,h.2⟩
  ·rintro ⟨h|h,k⟩
   ·exact Or.inl ⟨h,k⟩
   ·exact Or.inr ⟨h,k⟩
 |star a,w=>st_bytes (lq_lg a) w
 |plus a,w=>cc_bytes (lq_lg a) (st_bytes (lq_lg a)) w
 |opt a,w=>by
  have h1:=lq_lg a w;show w=[]\/a.Lq w<->(w=[]\/a.Lg w)/\_;rw[h1];constructor
  ·rintro (h|h)
   ·exact⟨Or.inl h,fun b hb=>by rw[h]at hb;simp at hb⟩
   ·exact⟨Or.inr h.1,h.2⟩
  ·rintro ⟨h|h,k⟩
   ·exact Or.inl h
   ·exact Or.inr ⟨h,k⟩
theorem st_ep:St Ep=Ep:=XI fun w=>by
 constructor
 ·intro h
  induction h with
  |nil=>rfl
  |cons h _ ih=>
   have h1:=h;have h2:=ih;rw[h1,h2];rfl
 ·intro h;have:w=[]:=h;rw[this];exact .nil
theorem lq_zero:∀e:Rx,e.sz=0->e.Lq=Ep
 |eps,_=>rfl
 |lit _,h=>by simp[sz]at h
 |cat a b,h=>by
  have h':a.sz+b.sz=0:=h;rw[Lq,lq_zero a (by omega),lq_zero b (by omega),XO]
 |alt a b,h=>by
  have h':a.sz+b.sz=0:=h;rw[Lq,lq_zero a (by omega),lq_zero b (by omega)];exact XI fun w=>by simp[Un]
 |star a,h=>by rw[Lq,lq_zero a h,st_ep]
 |plus a,h=>by rw[Lq,lq_zero a h,st_ep,XO]
 |opt a,h=>by
  rw[Lq,lq_zero a h];exact XI fun w=>by simp[Op,Ep]
theorem lq_nz (e:Rx):e.nz.Lq=e.Lq:=by
 unfold nz;split
 ·rename_i h;rw[lq_zero e h];rfl
 ·rfl
end Rx
def Pc (L:Ln) (le:Nat):Nat->Ln
 |0=>Ep
 |k+1=>Cc (Pc L le k) (if k<le then L else Op L)
def OX (kd:Int) (le mo:Nat) (L:Ln):Ln:=if kd=5 then St L else if kd=6 then Cc L (St L) else if kd=7 then Op L else Pc L le mo
theorem Qh (e:Rx) (le:Nat):∀k,(Rx.rowOf (Rx.copies e le k)).Lq=Pc e.Lq le k
 |0=>rfl
 |k+1=>by
  rw[Rx.copies_succ,Rx.rowOf_snoc,Rx.Lq,Qh e le k,Pc];split<;>rfl
theorem G8 (kd:Int) (le mo:Nat) (e:Rx):(Rx.suf kd le mo e).Lq=OX kd le mo e.Lq:=by
 unfold Rx.suf OX;split
 ·rfl
 ·split
  ·rfl
  ·split
   ·rfl
   ·exact Qh e le mo
structure Fr where
 A:Ln
 R:Ln
 P:Ln
def Fr.row (c:Fr):Ln:=Cc c.R c.P
def Fr.val (c:Fr):Ln:=Un c.A c.row
def Fr.zero:Fr:=⟨No,Ep,Ep⟩
def Fr.piece (c:Fr) (L:Ln):Fr:=⟨c.A,c.row,L⟩
def Fr.bar (c:Fr):Fr:=⟨c.val,Ep,Ep⟩
def Ui (q:Tq) (s:Fr × List Fr):Fr × List Fr:=
 if q.t.kd=1 then (s.1.piece (Li q.f),s.2) else if q.t.kd=2 then (Fr.zero,s.1::s.2)
 else if q.t.kd=3 then (match s.2 with
  |[]=>s
  |F::st=>(F.piece s.1.val,st))
 else if q.t.kd=4 then (s.1.bar,s.2) else (⟨s.1.A,s.1.R,OX q.t.kd q.le.toNat q.t.mo.toNat s.1.P⟩,s.2)
theorem I4 {q:Tq} (h:q.t.kd=1) (c:Fr) (st:List Fr):Ui q (c,st)=(c.piece (Li q.f),st):=by rw[Ui,if_pos h]
theorem GL {q:Tq} (h:q.t.kd=2) (c:Fr) (st:List Fr):Ui q (c,st)=(Fr.zero,c::st):=by rw[Ui,if_neg (by omega),if_pos h]
theorem GM {q:Tq} (h:q.t.kd=3) (c F:Fr) (st:List Fr):Ui q (c,F::st)=(F.piece c.val,st):=by rw[Ui,if_neg (by omega),if_neg (by omega),if_pos h]
theorem GO {q:Tq} (h:q.t.kd=4) (c:Fr) (st:List Fr):Ui q (c,st)=(c.bar,st):=by rw[Ui,if_neg (by omega),if_neg (by omega),if_neg (by omega),if_pos h]
theorem KF {q:Tq} (h:Yr q.t) (c:Fr) (st:List Fr):Ui q (c,st)=(⟨c.A,c.R,OX q.t.kd q.le.toNat q.t.mo.toNat c.P⟩,st):=by
 unfold Yr at h;rw[Ui,if_neg (by omega),if_neg (by omega),if_neg (by omega),if_neg (by omega)]
def Uu (qs:List Tq) (s:Fr × List Fr):Fr × List Fr:=qs.foldl (fun s q=>Ui q s) s
theorem V4 (a b:List Tq) (s:Fr × List Fr):Uu (a++b) s=Uu b (Uu a s):=by simp[Uu]
theorem X4 (a:Tq) (b:List Tq) (s:Fr × List Fr):Uu (a::b) s=Uu b (Ui a s):=by simp[Uu]
theorem Ry (a:Tq) (s:Fr × List Fr):Uu [a] s=Ui a s:=rfl
theorem Hq:∀(f k:Nat) (ts:List Tq) (e:Rx),Pp f k ts e ->
  (k=0->∀c st,Uu ts (c,st)=(c.piece e.Lq,st))/\(k=1->∀c st,∃c',Uu ts (c,st)=(c',st)/\c'.A=c.A/\c'.row=Cc c.row e.Lq) /\
  (2<=k->∀A st,∃c',Uu ts (⟨A,Ep,Ep⟩,st)=(c',st)/\c'.val=Un A e.Lq):=by
 intro f
 induction f with
 |zero=>intro k ts e h;exact absurd h (by simp[Pp])
 |succ f ih=>
  intro k ts e h;rcases k with _|_|k
  ·refine⟨fun _ c st=>?_,fun h=>by omega,fun h=>by omega⟩;unfold Pp at h;rcases h with ⟨q,rfl,_,h1,rfl⟩|⟨a,inn,b,e0,rfl,_,ha,_,hb,h1,rfl⟩|⟨q,t,e0,rfl,h1,_,ht,rfl⟩
   ·rw[Ry,I4 h1];rfl
   ·obtain⟨c',r1,r2⟩:=(ih 2 inn e0 h1).2.2 (Nat.le_refl _) No (c::st);rw[X4,V4,Ry,GL ha];show Ui b (Uu inn (⟨No,Ep,Ep⟩,c::st))=_;rw[r1,GM hb,Rx.lq_nz,<-Xs e0.Lq,<-r2]
   ·have r1:=(ih 0 q e0 h1).1 rfl c st;rw[V4,r1,Ry,KF ht,Rx.lq_nz,G8];rfl
  ·refine⟨fun h=>by omega,fun _ c st=>?_,fun h=>by omega⟩;unfold Pp at h;obtain⟨L,rfl,hL,rfl⟩:=h;have key:∀(L:List (List Tq × Rx)),(∀x∈L,Pp f 0 x.1 x.2)->∀(c:Fr) (st:List Fr) (e0:Rx) (B:Ln),c.row=Cc B e0.Lq->∃c',Uu (L.map (·.1)).flatten (c,st)=(c',st)/\c'.A=c.A/\c'.row=Cc B ((L.map (·.2)).foldl Rx.cat e0).Lq:=by
    intro L
    induction L with
    |nil=>intro _ c st e0 B h;exact⟨c,rfl,rfl,h⟩
    |cons x L ihL=>
     intro hL c st e0 B hc;have r1:=(ih 0 x.1 x.2 (hL x (by simp))).1 rfl c st;obtain⟨c',k1,k2,k3⟩:=ihL (fun y hy=>hL y (by simp[hy])) (c.piece x.2.Lq) st (Rx.cat e0 x.2) B (by
      show Cc c.row x.2.Lq=Cc B (Cc e0.Lq x.2.Lq);rw[hc,Q0])
     refine⟨c',?_,k2,k3⟩;rw[List.map_cons,List.flatten_cons,V4,r1];exact k1
   exact key L hL c st .eps c.row (by show _=Cc _ Ep;rw[XO])
  ·refine⟨fun h=>by omega,fun h=>by omega,fun _ A st=>?_⟩;unfold Pp at h;rcases h with h|⟨r,b,q,e1,e2,rfl,_,hb,h1,h2,rfl⟩
   ·obtain⟨c',r1,r2,r3⟩:=(ih 1 ts e h).2.1 rfl ⟨A,Ep,Ep⟩ st;refine⟨c',r1,?_⟩;rw[Fr.val,r2,r3];show Un A (Cc (Cc Ep Ep) e.Lq)=_;rw[XO,Xr]
   ·obtain⟨c',r1,r2,r3⟩:=(ih 1 r e1 h1).2.1 rfl ⟨A,Ep,Ep⟩ st;have r3':c'.row=e1.Lq:=by
     rw[r3];show Cc (Cc Ep Ep) e1.Lq=_;rw[XO,Xr]
    obtain⟨c2,k1,k2⟩:=(ih 2 q e2 h2).2.2 (Nat.le_refl _) (Un A e1.Lq) st;refine⟨c2,?_,?_⟩
    ·rw[V4,r1,X4,GO hb,<-k1,Fr.bar,Fr.val,r2,r3']
    ·rw[k2,KM];rfl
end Go.Proofs.Ytoaaklhpmhjhkab
namespace Go.Proofs.Ytoaaklhpmhjhkab
namespace Bm
structure Aut where
 N:Nat
 K:Nat
 to:Nat->Nat->Int
 vd:Nat->Int
def ext (A:Aut):Int->List Nat->Int
 |s,[]=>if s<0 then -1 else A.vd s.toNat
 |s,k::w=>if s<0 then -1 else ext A (A.to s.toNat k) w
theorem ext_none (A:Aut) (w:List Nat) {s:Int} (h:s<0):ext A s w=-1:=by
 cases w<;>simp[ext,h]
theorem ext_nil (A:Aut) (a:Nat):ext A (a:Int) []=A.vd a:=by
 simp only[ext];rw[if_neg (by omega),Int.toNat_natCast]
theorem ext_cons (A:Aut) (a k:Nat) (w:List Nat):ext A (a:Int) (k::w)=ext A (A.to a k) w:=by
 simp only[ext];rw[if_neg (by omega),Int.toNat_natCast]
def Kd (A:Aut) (w:List Nat):Prop:=∀k∈w,k<A.K
theorem Kd.nil (A:Aut):Kd A []:=fun k hk=>by cases hk
variable {A : Aut}{k : Nat}
theorem Kd.cons {w:List Nat} (hk:k<A.K) (hw:Kd A w):Kd A (k::w):=fun j hj=>by
 rcases List.mem_cons.1 hj with rfl|h
 ·exact hk
 ·exact hw j h
theorem Kd.tail {w:List Nat} (h:Kd A (k::w)):k<A.K/\Kd A w:=⟨h k (by simp),fun j hj=>h j (by simp[hj])⟩
def Al (A:Aut) (a b:Int):Prop:=∀w,Kd A w->ext A a w=ext A b w
theorem Al.refl (A:Aut) (a:Int):Al A a a:=fun _ _=>rfl
theorem Al.symm {a b:Int} (h:Al A a b):Al A b a:=fun w hw=>(h w hw).symm
theorem Al.trans {a b c:Int} (h:Al A a b) (k:Al A b c):Al A a c:=fun w hw=>(h w hw).trans (k w hw)
variable {b : Nat}
theorem Al.vd {a:Nat} (h:Al A a b):A.vd a=A.vd b:=by
 have:=h [] (Kd.nil A);rw[ext_nil,ext_nil]at this;exact this
theorem Al.to {a:Nat} (h:Al A a b) (hk:k<A.K):Al A (A.to a k) (A.to b k):=fun w hw=>by
 have:=h (k::w) (hw.cons hk);rw[ext_cons,ext_cons]at this;exact this
structure Aut.Good (A:Aut):Prop where
 rng:∀s k,s<A.N->k<A.K->-1<=A.to s k/\A.to s k<A.N
 live:∀s:Nat,s<A.N->¬Al A s (-1)
def gAt (A:Aut) (of:Nat->Int) (a k:Nat):Int:=if A.to a k=-1 then -1 else of (A.to a k).toNat
def Tg (A:Aut) (of:Nat->Int) (a b:Nat):Bool:=of a==of b&&(List.range A.K).all fun k=>gAt A of a k==gAt A of b k
theorem Tg_iff (A:Aut) (of:Nat->Int) (a b:Nat):Tg A of a b=true<->of a=of b/\∀k,k<A.K->gAt A of a k=gAt A of b k:=by
 simp[Tg]
theorem Tg_eqv (A:Aut) (of:Nat->Int) (n:Nat):Eqv (Tg A of) n:=
 ⟨fun a _=>(Tg_iff A of a a).2 ⟨rfl,fun _ _=>rfl⟩,
  fun a b _ _ h=>by
  obtain⟨h1,h2⟩:=(Tg_iff A of a b).1 h;exact(Tg_iff A of b a).2 ⟨h1.symm,fun k hk=>(h2 k hk).symm⟩,
  fun a b c _ _ _ h h'=>by
  obtain⟨h1,h2⟩:=(Tg_iff A of a b).1 h;obtain⟨k1,k2⟩:=(Tg_iff A of b c).1 h';exact(Tg_iff A of a c).2 ⟨h1.trans k1,fun k hk=>(h2 k hk).trans (k2 k hk)⟩⟩
theorem Tg_al (hA:A.Good) {of:Nat->Int} (h:∀a b:Nat,a<A.N->b<A.N->Al A a b->of a=of b) {a b:Nat} (ha:a<A.N) (hb:b<A.N) (hab:Al A a b):Tg A of a b=true:=by
 refine(Tg_iff A of a b).2 ⟨h a b ha hb hab,fun k hk=>?_⟩;have ht:=hab.to hk;have r1:=hA.rng a k ha hk;have r2:=hA.rng b k hb hk;unfold gAt;by_cases h1:A.to a k=-1
 ·by_cases h2:A.to b k=-1
  ·rw[if_pos h1,if_pos h2]
  ·exfalso;obtain⟨m,hm⟩:=Int.eq_ofNat_of_zero_le (show 0<=A.to b k by omega);rw[h1,hm]at ht;exact hA.live m (by omega) ht.symm
 ·by_cases h2:A.to b k=-1
  ·exfalso;obtain⟨m,hm⟩:=Int.eq_ofNat_of_zero_le (show 0<=A.to a k by omega);rw[h2,hm]at ht;exact hA.live m (by omega) ht
  ·rw[if_neg h1,if_neg h2];obtain⟨m,hm⟩:=Int.eq_ofNat_of_zero_le (show 0<=A.to a k by omega);obtain⟨p,hp⟩:=Int.eq_ofNat_of_zero_le (show 0<=A.to b k by omega);rw[hm,hp]at ht ⊢;rw[Int.toNat_natCast,Int.toNat_natCast];exact h m p (by omega) (by omega) ht
variable {n : Nat}{E : Nat → Nat → Bool}
theorem finer_eq {F:Nat->Nat->Bool} (hE:Eqv E n) (hF:Eqv F n) (h:∀a b,a<n->b<n->F a b=true->E a b=true) (hc:cnt F n<=cnt E n):
  ∀a b,a<n->b<n->E a b=true->F a b=true:=by
 have hr:∀a,a<n->least E a=a->least F a=a:=fun a ha hl=>by
  have h1:=least_le F a;rcases Nat.lt_or_ge (least F a) a with h2|h2
  ·have h3:=h _ _ (by omega) ha (least_like hF ha);have h4:=least_of_like hE (by omega) ha h3;have h5:=least_le E (least F a);rw[hl]at h4;omega
  ·omega
 have hm:∀k,k<=n->cnt E k<=cnt F k:=by
  intro k
  induction k with
  |zero=>intro _;exact Nat.le_refl _
  |succ k ih=>
   intro hk;have:=ih (by omega);rw[cnt_succ,cnt_succ];by_cases e:least E k=k
   ·rw[if_pos e,if_pos (hr k (by omega) e)];omega
   ·rw[if_neg e];omega
 have hs:∀k,k<=n->cnt F n-cnt F k>=cnt E n-cnt E k/\cnt F k<=cnt F n/\cnt E k<=cnt E n:=by
  intro k hk;refine⟨?_,cnt_mono F hk,cnt_mono E hk⟩;obtain⟨d,rfl⟩:∃d,n=k+d:=⟨n-k,by omega⟩;have:∀j,j<=d->cnt E (k+j)-cnt E k<=cnt F (k+j)-cnt F k:=by
   intro j
   induction j with
   |zero=>intro _;simp
   |succ j ih=>
    intro hj;have h1:=ih (by omega);have h2:=cnt_mono E (show k<=k+j by omega);have h3:=cnt_mono F (show k<=k+j by omega);rw[<-Nat.add_assoc,cnt_succ,cnt_succ];by_cases e:least E (k+j)=k+j
    ·rw[if_pos e,if_pos (hr _ (by omega) e)];omega
    ·rw[if_neg e];omega
  exact this d (Nat.le_refl _)
 have heq:∀k,k<=n->cnt E k=cnt F k:=fun k hk=>by
  have h1:=hm k hk;have h2:=hs k hk;omega
 have hrep:∀a,a<n->least F a=a->least E a=a:=fun a ha hl=>by
  have h1:=heq a (by omega);have h2:=heq (a+1) (by omega);rw[cnt_succ,cnt_succ,if_pos hl]at h2;by_cases e:least E a=a
  ·exact e
  ·rw[if_neg e]at h2;omega
 have hl:∀a,a<n->least E a=least F a:=fun a ha=>by
  have h1:=least_le F a;have h2:=hrep (least F a) (by omega) (least_idem hF ha);have h3:=least_of_like hE (by omega) ha (h _ _ (by omega) ha (least_like hF ha));rw[<-h3,h2]
 intro a b ha hb hab;exact like_of_least hF ha hb (by rw[<-hl a ha,<-hl b hb];exact least_of_like hE ha hb hab)
def idxI (E:Nat->Nat->Bool) (a:Nat):Int:=(idx E a:Int)
structure Part (A:Aut) (E:Nat->Nat->Bool):Prop where
 eqv:Eqv E A.N
 vd:∀a b,a<A.N->b<A.N->E a b=true->A.vd a=A.vd b
 al:∀a b:Nat,a<A.N->b<A.N->Al A a b->E a b=true
theorem Part.first (hA:A.Good):Part A (Tg A fun a=>A.vd a+1):=
 ⟨Tg_eqv _ _ _,fun a b _ _ h=>by have:=((Tg_iff _ _ _ _).1 h).1;omega,fun a b ha hb h=>Tg_al hA (fun a b _ _ h=>by rw[h.vd]) ha hb h⟩
theorem Part.next (hA:A.Good) (h:Part A E):Part A (Tg A (idxI E))/\∀a b,a<A.N->b<A.N->Tg A (idxI E) a b=true->E a b=true:=by
 have hf:∀a b,a<A.N->b<A.N->Tg A (idxI E) a b=true->E a b=true:=fun a b ha hb hT=>by
  have h1:=((Tg_iff _ _ _ _).1 hT).1;exact(idx_eq h.eqv ha hb).1 (by unfold idxI at h1;omega)
 refine⟨⟨Tg_eqv _ _ _,fun a b ha hb hT=>h.vd a b ha hb (hf a b ha hb hT),fun a b ha hb hab=>Tg_al hA (fun a b ha hb hab=>?_) ha hb hab⟩,hf⟩;unfold idxI;rw[(idx_eq h.eqv ha hb).2 (h.al a b ha hb hab)]
theorem Part.stable (hA:A.Good) (h:Part A E) (hc:cnt (Tg A (idxI E)) A.N<=cnt E A.N):∀a b:Nat,a<A.N->b<A.N->(Tg A (idxI E) a b=true<->Al A a b):=by
 obtain⟨h2,hf⟩:=h.next hA;have he:=finer_eq h.eqv h2.eqv hf hc;have hw:∀(w:List Nat) (a b:Nat),Kd A w->a<A.N->b<A.N->E a b=true->ext A a w=ext A b w:=by
  intro w
  induction w with
  |nil=>
   intro a b _ ha hb hab;simp only[ext,Int.toNat_natCast];rw[if_neg (by omega),if_neg (by omega)];exact h.vd a b ha hb hab
  |cons k w ih=>
   intro a b hk ha hb hab;obtain⟨k1,k2⟩:=hk.tail;have hT:=((Tg_iff _ _ _ _).1 (he a b ha hb hab)).2 k k1;have r1:=hA.rng a k ha k1;have r2:=hA.rng b k hb k1;simp only[ext,Int.toNat_natCast];rw[if_neg (by omega),if_neg (by omega)];unfold gAt at hT;by_cases h1:A.to a k=-1
   ·rw[if_pos h1]at hT;by_cases h2:A.to b k=-1
    ·rw[h1,h2]
    ·rw[if_neg h2]at hT;unfold idxI at hT;omega
   ·rw[if_neg h1]at hT;by_cases h2:A.to b k=-1
    ·rw[if_pos h2]at hT;unfold idxI at hT;omega
    ·rw[if_neg h2]at hT;obtain⟨m,hm⟩:=Int.eq_ofNat_of_zero_le (show 0<=A.to a k by omega);obtain⟨p,hp⟩:=Int.eq_ofNat_of_zero_le (show 0<=A.to b k by omega);rw[hm,hp]at hT ⊢;rw[Int.toNat_natCast,Int.toNat_natCast]at hT;exact ih m p k2 (by omega) (by omega) ((idx_eq h.eqv (by omega) (by omega)).1 (by unfold idxI at hT;omega))
 intro a b ha hb;constructor
 ·intro hT w hk;exact hw w a b hk ha hb (hf a b ha hb hT)
 ·exact h2.al a b ha hb
open Classical in
noncomputable def alB (A:Aut) (a b:Nat):Bool:=decide (Al A a b)
theorem alB_iff (A:Aut) (a b:Nat):alB A a b=true<->Al A a b:=by simp[alB]
theorem alB_eqv (A:Aut) (n:Nat):Eqv (alB A) n:=
 ⟨fun a _=>(alB_iff A a a).2 (Al.refl A a),fun a b _ _ h=>(alB_iff A b a).2 ((alB_iff A a b).1 h).symm,fun a b c _ _ _ h k=>(alB_iff A a c).2 (((alB_iff A a b).1 h).trans ((alB_iff A b c).1 k))⟩
theorem least_congr {F:Nat->Nat->Bool} (hE:Eqv E n) (hF:Eqv F n) (h:∀a b,a<n->b<n->(E a b=true<->F a b=true)) {a:Nat} (ha:a<n):least E a=least F a:=by
 have h1:=least_le E a;have h2:=least_le F a;have h3:=least_of_like hF (by omega) ha ((h _ _ (by omega) ha).1 (least_like hE ha));have h4:=least_of_like hE (by omega) ha ((h _ _ (by omega) ha).2 (least_like hF ha));have h5:=least_le F (least E a);have h6:=least_le E (least F a);omega
theorem reps_congr {F:Nat->Nat->Bool} (hE:Eqv E n) (hF:Eqv F n) (h:∀a b,a<n->b<n->(E a b=true<->F a b=true)):∀m,m<=n->reps E m=reps F m
 |0,_=>rfl
 |m+1,hm=>by rw[reps_succ,reps_succ,reps_congr hE hF h m (by omega),least_congr hE hF h (show m<n by omega)]
theorem idx_congr {F:Nat->Nat->Bool} (hE:Eqv E n) (hF:Eqv F n) (h:∀a b,a<n->b<n->(E a b=true<->F a b=true)) {a:Nat} (ha:a<n):idx E a=idx F a:=by
 have:=least_le F a;unfold idx cnt;rw[least_congr hE hF h ha,reps_congr hE hF h _ (by omega)]
end Bm
end Go.Proofs.Ytoaaklhpmhjhkab
