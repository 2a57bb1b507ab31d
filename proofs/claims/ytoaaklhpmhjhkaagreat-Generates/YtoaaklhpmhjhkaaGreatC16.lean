import Derived.Test.YtoaaklhpmhjhkaaGreatC13
set_option maxRecDepth 100000
set_option maxHeartbeats 4000000
set_option linter.all false
namespace Go.Proofs.YtoaaklhpmhjhkaaGreat
section
open Go.RowKit
theorem Dh (s:ByteArray) (k:Nat) (c:UInt8) (r:List UInt8) (hd:s.data.toList.drop k=c::r) (h0:Pg.kindOf (Y7 s k)≠0) (aa:(Pg.readPart (Y7 s) s.size k (Pg.kindOf (Y7 s k))).ok=true):
  ∃n:Nat,1<=n/\k+n<=s.size/\(Pg.readPart (Y7 s) s.size k (Pg.kindOf (Y7 s k))).n=((k+n:Nat):Int)/\UV ⟨(s.data.toList.drop k).take n,Pg.kindOf (Y7 s k),(Pg.readPart (Y7 s) s.size k (Pg.kindOf (Y7 s k))).mo⟩:=by
 have d:Y7 s (k:Int)=c.toNat:=by rw[SO hd];rfl
 have V:=XD hd;have Q:r.length+1=s.size-k:=by
  have:(s.data.toList.drop k).length=s.size-k:=by simp
  rw[hd]at this;simpa using this
 by_cases w:c=91
 ·subst w;have C:Pg.kindOf (Y7 s k)=1:=by rw[d];rfl
  have e:Y7 s (k:Int)=91:=d;rw[C]at aa ⊢;have B:Pg.readPart (Y7 s) s.size k 1=⟨(Pg.readSet (Y7 s) s.size k).n,(Pg.readSet (Y7 s) s.size k).ok,(Pg.readSet (Y7 s) s.size k).f,0,(Pg.readSet (Y7 s) s.size k).fa⟩:=by
   rw[Pg.readPart,if_pos rfl,Pg.readPlace,if_pos e]
  rw[B]at aa ⊢;rcases Qx s k r 0 0 0 (Or.inl rfl) hd with ⟨n,F,FA,h1,h2,h3,S,_⟩|⟨h1,_⟩
  ·refine⟨n-k,by omega,by omega,?_,Or.inl ⟨rfl,Or.inr (Or.inr ⟨r.take (n-k-1),?_,λl I=>?_⟩)⟩⟩
   ·rw[h3,show k+(n-k)=n by omega]
   ·show(s.data.toList.drop k).take (n-k)=_;rw[hd,show n-k=(n-k-1)+1 by omega,ZK];rfl
   obtain⟨fa,h⟩:=MA S l I;refine⟨fa,F,?_⟩;rw[h,List.length_take,show I+(n-k)=I+(min (n-k-1) r.length+1) by omega]
  rw[h1]at aa;cases aa
 by_cases y:c=92
 ·subst y;have C:Pg.kindOf (Y7 s k)=1:=by rw[d];rfl
  have e:Y7 s (k:Int)=92:=d;rw[C]at aa ⊢;have B:Pg.readPart (Y7 s) s.size k 1=⟨(Pg.readEscape (Y7 s) k).n,(Pg.readEscape (Y7 s) k).ok,Pg.withF (λ_=>false) (Pg.readEscape (Y7 s) k).v (Pg.readEscape (Y7 s) k).v,0,-1⟩:=by
   rw[Pg.readPart,if_pos rfl,Pg.readPlace,if_neg (by rw[e];decide),if_neg (by rw[e];decide),if_pos e]
  rw[B]at aa ⊢;rcases Sr s k r hd with ⟨n,v,h1,h2,h3,_⟩|⟨n,h1,_⟩
  ·refine⟨n+1,by omega,by omega,by rw[h1],Or.inl ⟨rfl,Or.inr (Or.inl ⟨r.take n,v,?_,λl=>?_⟩)⟩⟩
   ·show(s.data.toList.drop k).take (n+1)=_;rw[hd,ZK]
   have:=Ut h2 l;rw[ZK,Zt]at this;rw[this,List.length_take,Nat.min_eq_left h3]
  rw[h1]at aa;cases aa
 by_cases g:c=123
 ·subst g;have C:Pg.kindOf (Y7 s k)=8:=by rw[d];rfl
  rw[C]at aa ⊢;have B:Pg.readPart (Y7 s) s.size k 8=⟨(Pg.readCount (Y7 s) k).n,(Pg.readCount (Y7 s) k).ok,λ_=>false,(Pg.readCount (Y7 s) k).v,Pg.countFalls (Y7 s) k⟩:=rfl;rw[B]at aa ⊢;rcases PJ s k r 0 0 hd with ⟨n,mo,le,h1,_,h3,_⟩|⟨h1,_⟩
  ·rw[h1];have U:Ug ((123::r).take n) mo:=by
    rcases h3 with ⟨x,l,rfl,rfl,x1,x2,rfl,_⟩|⟨x,z,l,rfl,rfl,x1,x2,Y,Z,rfl,_⟩
    ·exact Or.inl ⟨x,rfl,x1,x2,rfl⟩
    exact Or.inr ⟨x,z,rfl,x1,x2,Y,Z,rfl⟩
   have W:1<=n/\n<=r.length+1:=by
    rcases h3 with ⟨x,l,rfl,rfl,_⟩|⟨x,z,l,rfl,rfl,_⟩<;>(simp)
   refine⟨n,W.1,by omega,rfl,?_⟩;rw[hd];exact Or.inr (Or.inr (Or.inr (Or.inr (Or.inr (Or.inr (Or.inr ⟨rfl,U⟩))))))
  rw[h1]at aa;cases aa
 have a:∀kd:Int,kd≠1->kd≠8->Pg.readPart (Y7 s) s.size k kd=⟨(k:Int)+1,true,λ_=>false,0,-1⟩:=λkd h1 T=>by rw[Pg.readPart,if_neg h1,if_neg T]
 have D:(s.data.toList.drop k).take 1=[c]:=by rw[hd];rfl
 have b:∀kd:Int,Pg.kindOf (Y7 s k)=kd->(Pg.readPart (Y7 s) s.size k kd).n=(k:Int)+1->UV ⟨[c],kd,(Pg.readPart (Y7 s) s.size k kd).mo⟩ ->
   ∃n:Nat,1<=n/\k+n<=s.size/\(Pg.readPart (Y7 s) s.size k (Pg.kindOf (Y7 s k))).n=((k+n:Nat):Int)/\UV ⟨(s.data.toList.drop k).take n,Pg.kindOf (Y7 s k),(Pg.readPart (Y7 s) s.size k (Pg.kindOf (Y7 s k))).mo⟩:=by
  intro kd h1 h2 h3;rw[h1];exact⟨1,by omega,by omega,by rw[h2];rfl,by rw[D];exact h3⟩
 by_cases m:c=40
 ·subst m;exact b 2 (by rw[d];rfl) (by rw[a 2 (by decide) (by decide)]) (Or.inr (Or.inl ⟨rfl,rfl⟩))
 by_cases o:c=41
 ·subst o;exact b 3 (by rw[d];rfl) (by rw[a 3 (by decide) (by decide)]) (Or.inr (Or.inr (Or.inl ⟨rfl,rfl⟩)))
 by_cases i:c=124
 ·subst i;exact b 4 (by rw[d];rfl) (by rw[a 4 (by decide) (by decide)]) (Or.inr (Or.inr (Or.inr (Or.inl ⟨rfl,rfl⟩))))
 by_cases p:c=42
 ·subst p;exact b 5 (by rw[d];rfl) (by rw[a 5 (by decide) (by decide)]) (Or.inr (Or.inr (Or.inr (Or.inr (Or.inl ⟨rfl,rfl⟩)))))
 by_cases q:c=43
 ·subst q;exact b 6 (by rw[d];rfl) (by rw[a 6 (by decide) (by decide)]) (Or.inr (Or.inr (Or.inr (Or.inr (Or.inr (Or.inl ⟨rfl,rfl⟩))))))
 by_cases u:c=63
 ·subst u;exact b 7 (by rw[d];rfl) (by rw[a 7 (by decide) (by decide)]) (Or.inr (Or.inr (Or.inr (Or.inr (Or.inr (Or.inr (Or.inl ⟨rfl,rfl⟩)))))))
 by_cases A:c=93
 ·subst A;exact absurd (by rw[d];rfl) h0
 by_cases j:c=125
 ·subst j;exact absurd (by rw[d];rfl) h0
 have O:(c.toNat:Int)≠91:=Yv w;have P:(c.toNat:Int)≠92:=Yv y;have E:(c.toNat:Int)≠123:=Yv g;have J:(c.toNat:Int)≠40:=Yv m;have K:(c.toNat:Int)≠41:=Yv o;have G:(c.toNat:Int)≠124:=Yv i;have L:(c.toNat:Int)≠42:=Yv p;have M:(c.toNat:Int)≠43:=Yv q;have N:(c.toNat:Int)≠63:=Yv u;have X:(c.toNat:Int)≠93:=Yv A;have R:(c.toNat:Int)≠125:=Yv j;have H:Pg.kindOf (Y7 s k)=1:=by
  rw[d];unfold Pg.kindOf;rw[g_,if_neg J,if_neg K,if_neg G,if_neg L,if_neg M,if_neg N,if_neg E]
 refine b 1 H ?_ (Or.inl ⟨rfl,Or.inl ⟨c,rfl,?_⟩⟩)
 ·rw[Pg.readPart,if_pos rfl,Pg.readPlace,d,if_neg O];by_cases t:(c.toNat:Int)=46
  ·rw[if_pos t]
  rw[if_neg t,if_neg P]
 unfold TH;intro h;rcases h with h|h|h|h|h|h|h|h|h|h|h<;>contradiction
theorem Ff (s:ByteArray):∀(u k:Nat) (z op:Int) (y:List Pg.Pt),s.size<u+k->k<=s.size->(Pg.partsFrom (Y7 s) s.size u z op k y).ok=true ->
  ∃ps ts,(Pg.partsFrom (Y7 s) s.size u z op k y).ps=y++ps/\X8 ts=s.data.toList.drop k/\Eh ts z op/\ps.map (λp=>(p.kd,p.mo))=ts.map (λt=>(t.kd,t.mo)):=by
 intro u
 induction u with
 |zero=>intro k z op y h1 h2;omega
 |succ u ih=>
  intro k z op y q o a;rcases hd:s.data.toList.drop k with _|⟨c,r⟩
  ·have h:k=s.size:=by
    have:s.size<=k:=by simpa using hd
    omega
   have d:¬(k:Int)<(s.size:Int):=by omega
   rw[Pg.partsFrom,if_neg d]at a ⊢;exact⟨[],[],by simp,rfl,by simpa[Eh]using a,rfl⟩
  have i:=XD hd;have b:(k:Int)<(s.size:Int):=by omega
  rw[Pg.partsFrom,if_pos b]at a ⊢;cases hc:Pg.canStand (Pg.kindOf (Y7 s k)) z op
  ·rw[hc]at a;cases a
  rw[hc]at a;simp only[if_true]at a ⊢;cases hp:(Pg.readPart (Y7 s) s.size k (Pg.kindOf (Y7 s k))).ok
  ·rw[hp]at a;cases a
  rw[hp]at a;simp only[if_true]at a ⊢;have h0:Pg.kindOf (Y7 s k)≠0:=by
   intro e;rw[e]at hc;simp[Pg.canStand]at hc
  obtain⟨n,v,j,l,m⟩:=Dh s k c r hd h0 hp;rw[l]at a ⊢;obtain⟨ps,ts,g1,g2,f,g⟩:=ih (k+n) _ _ _ (by omega) j a;refine⟨_::ps,⟨(s.data.toList.drop k).take n,Pg.kindOf (Y7 s k),(Pg.readPart (Y7 s) s.size k (Pg.kindOf (Y7 s k))).mo⟩::ts,by rw[g1,Zs];rfl,?_,⟨m,hc,f⟩,?_⟩
  ·rw[XX,g2,<-hd,<-YV,List.take_append_drop]
  simp only[List.map_cons,g]
theorem Ry:∀(ps y:List Pg.Pt),ps.map (λp=>(p.kd,p.mo))=y.map (λp=>(p.kd,p.mo))->∀c,Pg.cRun ps c=Pg.cRun y c:=by
 intro ps
 induction ps with
 |nil=>
  intro y h c;rcases y with _|⟨q,y⟩
  ·rfl
  simp at h
 |cons p ps ih=>
  intro y h c;rcases y with _|⟨q,y⟩
  ·simp at h
  simp only[List.map_cons,List.cons.injEq,Prod.mk.injEq]at h;obtain⟨⟨h1,h2⟩,h3⟩:=h;have hs:Pg.cStep c p=Pg.cStep c q:=by unfold Pg.cStep;rw[h1,h2]
  simp only[Pg.cRun];rw[hs];exact ih y h3 _
theorem LE (s:ByteArray) (h:(Pg.readParts (Y7 s) s.size).ok=true):∃V g,Rf.cnt g true s.data.toList=some V/\0<=V/\Pg.countPlaces (Pg.readParts (Y7 s) s.size).ps=Pg.capped V:=by
 unfold Pg.readParts at h ⊢;obtain⟨ps,ts,h1,h2,h3,l⟩:=Ff s ((s.size:Int).toNat+1) 0 0 0 [] (by omega) (by omega) h;have d:∀t r,ts=t::r->¬Yc t:=by
  intro t r e hs;rw[e]at h3;have:=h3.2.1;unfold Yc at hs;simp[Pg.canStand,Pg.endsPiece,Pg.isSuffix]at this;rcases hs with h|h|h|h<;>simp[h]at this
 obtain⟨f,inn,rest,V,g1,g2,k⟩:=Df ts.length ts 0 0 (Zg _) (Int.le_refl _) h3 d;have a:rest=[]:=by
  rcases k with ⟨h,_⟩|⟨b,r,_,_,_,h,_⟩
  ·exact h
  omega
 rw[a,List.append_nil]at g1;subst g1;obtain⟨G,m⟩:=Ez f true ts V g2;obtain⟨o,_,n⟩:=machine f true ts V g2;obtain⟨p,q,i,_,_,j⟩:=n rfl ⟨0,0,[]⟩ (by simp) (by simp);refine⟨V,G,?_,o,?_⟩
 ·have:=m 0;rw[h2,Zw,Zn]at this;exact this
 have c:(Pg.partsFrom (Y7 s) (s.size:Int) ((s.size:Int).toNat+1) 0 0 0 []).ps=ps:=by
  have:=h1;rw[List.nil_append]at this;exact this
 rw[c,Pg.countPlaces,Ry ps (ts.map Vr) (by rw[l,List.map_map];rfl),i];simp only;rw[j];simp
theorem XT (s:ByteArray):Rf.WrongIs s.data.toList (Pg.wrong (Y7 s) s.size).1 (Pg.wrong (Y7 s) s.size).2/\((Pg.wrong (Y7 s) s.size).1=0->(Pg.wrong (Y7 s) s.size).2=0/\s.size<=40/\(Pg.readParts (Y7 s) s.size).ok=true):=by
 have H:s.data.toList.length=s.size:=by simp
 by_cases t:40<s.size
 ·have:Pg.wrong (Y7 s) s.size=(2,0):=by rw[Pg.wrong,p_]
  rw[this];exact⟨Or.inl ⟨by omega,rfl,rfl⟩,λh=>by simp at h⟩
 have y:Pg.wrong (Y7 s) s.size=if (Pg.readParts (Y7 s) s.size).ok then
  (if Pg.tooDeep (Pg.readParts (Y7 s) s.size).ps 0=-1 then
   (if Pg.falling (Pg.readParts (Y7 s) s.size).ps=-1 then
    (if Pg.matchless (Pg.readParts (Y7 s) s.size).ps=-1 then (0,0) else (6,Pg.matchless (Pg.readParts (Y7 s) s.size).ps))
   else (5,Pg.falling (Pg.readParts (Y7 s) s.size).ps))
  else (4,Pg.tooDeep (Pg.readParts (Y7 s) s.size).ps 0))
  else (3,(Pg.readParts (Y7 s) s.size).n):=by rw[Pg.wrong,g_]
 rw[y];have g:=PW s ((s.size:Int).toNat+1) 0 0 0 0 [] (by omega) (by omega) (by omega);have i:Xd 0=0:=rfl;rw[i,Zw]at g;have w:Pg.partsFrom (Y7 s) s.size ((s.size:Int).toNat+1) 0 0 ((0:Nat):Int) []=Pg.readParts (Y7 s) s.size:=rfl;rw[w]at g;rcases g with ⟨h1,h2,h3⟩|⟨ps,h1,h2,h3,r,⟨G,j⟩,⟨F,u⟩,v⟩
 ·rw[h1];simp only[Bool.false_eq_true,if_false];have b:Rf.form s.data.toList=(Pg.readParts (Y7 s) s.size).n:=h2;exact⟨Or.inr ⟨by omega,Or.inl ⟨by rw[b];exact h3,rfl,b.symm⟩⟩,λh=>by simp at h⟩
 rw[List.nil_append]at h2;rw[h1,h2];simp only[if_true];have b:Rf.form s.data.toList<0:=by
  have:Rf.form s.data.toList=-1:=h3;omega
 have a:Rf.deep s.data.toList=Pg.tooDeep ps 0:=r (by omega);have f:∀(ps:List Pg.Pt) (op:Int),(∀p∈ps,0<=p.pl/\-1<=p.fa)->(Pg.tooDeep ps op=-1\/0<=Pg.tooDeep ps op)/\(Pg.falling ps=-1\/0<=Pg.falling ps)/\(Pg.matchless ps=-1\/0<=Pg.matchless ps):=by
  intro ps
  induction ps with
  |nil=>intro op _;exact⟨Or.inl rfl,Or.inl rfl,Or.inl rfl⟩
  |cons p ps ih=>
   intro op m;obtain⟨z,A,B⟩:=ih (Pg.opens p.kd op) (λq x=>m q (by simp[x]));obtain⟨o,I⟩:=m p (by simp);refine⟨?_,?_,?_⟩
   ·rw[Pg.tooDeep];split
    ·exact Or.inr o
    exact z
   ·rw[Pg.falling];split
    ·exact A
    exact Or.inr (by omega)
   rw[Pg.matchless];split
   ·exact Or.inr o
   exact B
 obtain⟨C,D,E⟩:=f ps 0 v;by_cases c:Pg.tooDeep ps 0=-1
 ·rw[if_pos c];by_cases d:Pg.falling ps=-1
  ·rw[if_pos d];have l:=j 0;have k:=u 0;by_cases e:Pg.matchless ps=-1
   ·rw[if_pos e];exact⟨Or.inr ⟨by omega,Or.inr ⟨b,Or.inr ⟨by rw[a,c];decide,_,_,l,Or.inr ⟨by rw[d];decide,_,_,k,Or.inr ⟨by rw[e];decide,rfl,rfl⟩⟩⟩⟩⟩,λ_=>⟨rfl,by omega,trivial⟩⟩
   rw[if_neg e];exact⟨Or.inr ⟨by omega,Or.inr ⟨b,Or.inr ⟨by rw[a,c];decide,_,_,l,Or.inr ⟨by rw[d];decide,_,_,k,Or.inl ⟨by omega,rfl,rfl⟩⟩⟩⟩⟩,λh=>by simp at h⟩
  rw[if_neg d];exact⟨Or.inr ⟨by omega,Or.inr ⟨b,Or.inr ⟨by rw[a,c];decide,_,_,j 0,Or.inl ⟨by omega,rfl,rfl⟩⟩⟩⟩,λh=>by simp at h⟩
 rw[if_neg c];exact⟨Or.inr ⟨by omega,Or.inr ⟨b,Or.inl ⟨by omega,rfl,a.symm⟩⟩⟩,λh=>by simp at h⟩
theorem OJ {u:Nat->Int}:∀n,(∀i,i<n->0<=u i)->0<=Ye u n
 |0,_=>Int.le_refl _
 |n+1,h=>by simp only[Ye];have:=OJ n (λi a=>h i (by omega));have:=h n (by omega);omega
theorem LY {u v:Nat->Int}:∀n,(∀i,i<n->0<=v i/\u i=Pg.capped (v i))->(96<Ye u n<->96<Ye v n)/\(¬96<Ye v n->Ye u n=Ye v n)
 |0,_=>⟨Iff.rfl,λ_=>rfl⟩
 |n+1,h=>by
  obtain⟨h1,h2⟩:=LY n (λi a=>h i (by omega));obtain⟨v0,b⟩:=h n (by omega);have c:=OJ n (λi a=>(h i (by omega)).1);have d:0<=Ye u n:=OJ n (λi a=>by rw[(h i (by omega)).2];exact Vf (h i (by omega)).1);simp only[Ye];rw[b,VU];split
  ·constructor
   ·omega
   intro;omega
  by_cases hs:96<Ye v n
  ·have:=h1.2 hs;constructor
   ·omega
   intro;omega
  have:=h2 hs;constructor
  ·omega
  intro;omega
def QJ (w:List UInt8) (f:Nat->Bool):Prop:=
 (w=[46]/\∀b,b<256->f b=(b != 10)) \/
 (∃c v r0,w=c::r0/\c≠46/\c≠91/\c≠40/\(∀r,Rf.one (w++r)=some (v,w.length))/\∀b,b<256->f b=decide ((b:Int)=v)) \/
 (∃e,w=91::e/\∀r i,∃fa,Rf.set (e++r) i=some (i+(e.length+1),fa,f))
def Cb (w:List UInt8) (le:Int):Prop:=∃(x:UInt8) (r:List UInt8),w=123::x::r/\48<=(x.toNat:Int)/\(x.toNat:Int)<=57/\le=(x.toNat:Int)-48
theorem QA {v:Int} (b:Nat):Pg.withF (λ_=>false) v v b=decide ((b:Int)=v):=by
 unfold Pg.withF;by_cases h:(b:Int)=v
 ·simp[h]
 have:¬(v<=(b:Int)/\(b:Int)<=v):=by omega
 simp only[Bool.false_or,h,decide_false];rcases Int.lt_or_le (b:Int) v with h1|h1
 ·simp[show ¬v<=(b:Int) by omega]
 simp[show ¬(b:Int)<=v by omega]
theorem GP (s:ByteArray) (k n:Nat) (c:UInt8) (r:List UInt8) (J:s.data.toList.drop k=c::r) (h1:Pg.kindOf (Y7 s k)=1) (H:(Pg.readPart (Y7 s) s.size k 1).ok=true) (Y:(Pg.readPart (Y7 s) s.size k 1).n=((k+n:Nat):Int)) (_hn2:k+n<=s.size):
  QJ ((s.data.toList.drop k).take n) (Pg.readPart (Y7 s) s.size k 1).f:=by
 have d:Y7 s (k:Int)=c.toNat:=by rw[SO J];rfl
 by_cases i:c=91
 ·subst i;have a:Y7 s (k:Int)=91:=d;have l:Pg.readPart (Y7 s) s.size k 1=⟨(Pg.readSet (Y7 s) s.size k).n,(Pg.readSet (Y7 s) s.size k).ok,(Pg.readSet (Y7 s) s.size k).f,0,(Pg.readSet (Y7 s) s.size k).fa⟩:=by
   rw[Pg.readPart,if_pos rfl,Pg.readPlace,if_pos a]
  rw[l]at H Y ⊢;rcases Qx s k r 0 0 0 (Or.inl rfl) J with ⟨m,F,B,g1,g2,q,z,_⟩|⟨g1,_⟩
  ·rw[q]at Y ⊢;simp only at Y ⊢;have o:m=k+n:=by omega
   refine Or.inr (Or.inr ⟨r.take (n-1),?_,λp t=>?_⟩)
   ·rw[J,show n=(n-1)+1 by omega,ZK];rfl
   obtain⟨fa,h⟩:=MA z p t;refine⟨fa,?_⟩;have A:r.length+1=s.size-k:=by
    have:(s.data.toList.drop k).length=s.size-k:=by simp
    rw[J]at this;simpa using this
   rw[show m-k-1=n-1 by omega]at h;rw[h,List.length_take,show t+(m-k)=t+(min (n-1) r.length+1) by omega]
  rw[g1]at H;cases H
 by_cases j:c=92
 ·subst j;have a:Y7 s (k:Int)=92:=d;have l:Pg.readPart (Y7 s) s.size k 1=⟨(Pg.readEscape (Y7 s) k).n,(Pg.readEscape (Y7 s) k).ok,Pg.withF (λ_=>false) (Pg.readEscape (Y7 s) k).v (Pg.readEscape (Y7 s) k).v,0,-1⟩:=by
   rw[Pg.readPart,if_pos rfl,Pg.readPlace,if_neg (by rw[a];decide),if_neg (by rw[a];decide),if_pos a]
  rw[l]at H Y ⊢;rcases Sr s k r J with ⟨m,v,g1,q,z,_⟩|⟨m,g1,_⟩
  ·rw[g1]at Y ⊢;simp only at Y ⊢;have o:n=m+1:=by omega
   subst o;refine Or.inr (Or.inl ⟨92,v,r.take m,by rw[J,ZK],by decide,by decide,by decide,λp=>?_,λb _=>QA b⟩);rw[J];have:=Ut q p;rw[this];congr 2;simp;omega
  rw[g1]at H;cases H
 by_cases g:c=46
 ·subst g;have a:Y7 s (k:Int)=46:=d;have l:Pg.readPart (Y7 s) s.size k 1=⟨(k:Int)+1,true,λk=>!(Pg.withF (λ_=>false) 10 10 k),0,-1⟩:=by
   rw[Pg.readPart,if_pos rfl,Pg.readPlace,if_neg (by rw[a];decide),if_pos a]
  rw[l]at Y ⊢;simp only at Y ⊢;have o:n=1:=by omega
  subst o;refine Or.inl ⟨by rw[J];rfl,λb _=>?_⟩;show(!Pg.withF (λ_=>false) 10 10 b)=(b != 10);rw[QA];by_cases h:b=10
  ·subst h;rfl
  have:¬(b:Int)=10:=by omega
  simp[h,this]
 have x:=Yv i;have y:=Yv j;have w:=Yv g;have l:Pg.readPart (Y7 s) s.size k 1=⟨(k:Int)+1,true,Pg.withF (λ_=>false) (Y7 s k) (Y7 s k),0,-1⟩:=by
  rw[Pg.readPart,if_pos rfl,Pg.readPlace,if_neg (by rw[d];exact x),if_neg (by rw[d];exact w),if_neg (by rw[d];exact y)]
 rw[l]at Y ⊢;simp only at Y ⊢;have o:n=1:=by omega
 subst o;have u:c≠40:=λe=>by
  subst e;rw[d]at h1;exact absurd h1 (by decide)
 refine Or.inr (Or.inl ⟨c,c.toNat,[],by rw[J];rfl,g,i,u,λp=>?_,λb _=>?_⟩)
 ·rw[J];simp[Rf.one,j]
 rw[d];exact QA b
theorem Ey (s:ByteArray) (k n:Nat) (_c:UInt8) (_r:List UInt8) (y:Ug ((s.data.toList.drop k).take n) (Pg.readPart (Y7 s) s.size k 8).mo):Cb ((s.data.toList.drop k).take n) (Pg.digitValue (Y7 s ((k:Int)+1))):=by
 have b:∀(x:UInt8) (c:List UInt8),(s.data.toList.drop k).take n=123::x::c->48<=(x.toNat:Int)->(x.toNat:Int)<=57->Cb ((s.data.toList.drop k).take n) (Pg.digitValue (Y7 s ((k:Int)+1))):=λx c a h1 h2=>by
  refine⟨x,c,a,h1,h2,?_⟩;have d:(s.data.toList.drop k)[1]?=some x:=by
   have h3:((s.data.toList.drop k).take n)[1]?=some x:=by rw[a];rfl
   rw[List.getElem?_take]at h3;split at h3
   ·exact h3
   cases h3
  rw[JK rfl,at_,d];simp only;rw[Pg.digitValue,if_pos ⟨h1,h2⟩]
 rcases y with ⟨x,a,h1,h2,_⟩|⟨x,z,a,h1,h2,_⟩
 ·exact b x _ a h1 h2
 exact b x _ a h1 h2
structure Tq where
 t:Tk
 f:Nat->Bool
 le:Int
def UQ (q:Tq):Prop:=UV q.t/\(q.t.kd=1->QJ q.t.w q.f)/\(q.t.kd=8->Cb q.t.w q.le)
def Np (s:ByteArray) (p:Pg.Pt) (q:Tq):Prop:=p.kd=q.t.kd/\p.mo=q.t.mo/\p.f=q.f/\(p.kd=8->Pg.digitValue (Y7 s (p.pl+1))=q.le)
inductive XU {α β:Type} (R:α->β->Prop):List α->List β->Prop
 |nil:XU R [] []
 |cons {a:α}{b:β}{l:List α}{m:List β} (h:R a b) (t:XU R l m):XU R (a::l) (b::m)
theorem Fg (s:ByteArray):∀(u k:Nat) (J op:Int) (H:List Pg.Pt),s.size<u+k->k<=s.size->(Pg.partsFrom (Y7 s) s.size u J op k H).ok=true ->
  ∃ps qs,(Pg.partsFrom (Y7 s) s.size u J op k H).ps=H++ps/\X8 (qs.map Tq.t)=s.data.toList.drop k/\Eh (qs.map Tq.t) J op/\(∀q∈qs,UQ q)/\XU (Np s) ps qs:=by
 intro u
 induction u with
 |zero=>intro k J op H h1 h2;omega
 |succ u ih=>
  intro k J op H B A a;rcases hd:s.data.toList.drop k with _|⟨c,r⟩
  ·have x:k=s.size:=by
    have:s.size<=k:=by simpa using hd
    omega
   have i:¬(k:Int)<(s.size:Int):=by omega
   rw[Pg.partsFrom,if_neg i]at a ⊢;exact⟨[],[],by simp,rfl,by simpa[Eh]using a,by simp,XU.nil⟩
  have y:=XD hd;have b:(k:Int)<(s.size:Int):=by omega
  rw[Pg.partsFrom,if_pos b]at a ⊢;cases hc:Pg.canStand (Pg.kindOf (Y7 s k)) J op
  ·rw[hc]at a;cases a
  rw[hc]at a;simp only[if_true]at a ⊢;cases hp:(Pg.readPart (Y7 s) s.size k (Pg.kindOf (Y7 s k))).ok
  ·rw[hp]at a;cases a
  rw[hp]at a;simp only[if_true]at a ⊢;have h0:Pg.kindOf (Y7 s k)≠0:=by
   intro e;rw[e]at hc;simp[Pg.canStand]at hc
  obtain⟨n,C,m,o,l⟩:=Dh s k c r hd h0 hp;have d:=o;rw[o]at a ⊢;obtain⟨ps,qs,g1,g2,p,v,w⟩:=ih (k+n) _ _ _ (by omega) m a;refine⟨_::ps,⟨⟨(s.data.toList.drop k).take n,Pg.kindOf (Y7 s k),(Pg.readPart (Y7 s) s.size k (Pg.kindOf (Y7 s k))).mo⟩,(Pg.readPart (Y7 s) s.size k (Pg.kindOf (Y7 s k))).f,Pg.digitValue (Y7 s ((k:Int)+1))⟩::qs,by rw[g1,Zs];rfl,?_,⟨l,hc,p⟩,?_,XU.cons ⟨rfl,rfl,rfl,λ_=>rfl⟩ w⟩
  ·rw[List.map_cons,XX,g2,<-hd,<-YV,List.take_append_drop]
  intro q z;rcases ZR.1 z with rfl|h
  ·refine⟨l,λh1=>?_,λg=>?_⟩
   ·simp only at h1 ⊢;rw[h1]at hp d ⊢;exact GP s k n c r hd h1 hp d m
   simp only at g ⊢;have j:=(NY l g).2;simp only at j;rw[g]at j;exact Ey s k n c r j
  exact v q h
def Pp:Nat->Nat->List Tq->Rx->Prop
 |0,_,_,_=>False
 |f+1,0,ts,e=>(∃q,ts=[q]/\UQ q/\q.t.kd=1/\e=.lit q.f) \/
   (∃a inn b e0,ts=a::(inn++[b])/\UQ a/\a.t.kd=2/\UQ b/\b.t.kd=3/\Pp f 2 inn e0/\e=e0.nz) \/
   (∃q t e0,ts=q++[t]/\Pp f 0 q e0/\UQ t/\Yc t.t/\e=(Rx.suf t.t.kd t.le.toNat t.t.mo.toNat e0).nz)
 |f+1,1,ts,e=>∃L:List (List Tq × Rx),ts=(L.map (·.1)).flatten/\(∀x∈L,Pp f 0 x.1 x.2)/\e=Rx.rowOf (L.map (·.2))
 |f+1,_,ts,e=>Pp f 1 ts e\/∃r b q e1 e2,ts=r++b::q/\UQ b/\b.t.kd=4/\Pp f 1 r e1/\Pp f 2 q e2/\e=.alt e1 e2
theorem QK:∀(f k:Nat) (ts:List Tq) (e:Rx),Pp f k ts e->Pp (f+1) k ts e:=by
 intro f
 induction f with
 |zero=>intro k ts e h;exact absurd h (by simp[Pp])
 |succ f ih=>
  intro k ts e h;rcases k with _|_|k
  ·unfold Pp at h ⊢;rcases h with h|⟨a,inn,b,e0,h1,h2,h3,c,d,g,j⟩|⟨q,t,e0,h1,h2,h3⟩
   ·exact Or.inl h
   ·exact Or.inr (Or.inl ⟨a,inn,b,e0,h1,h2,h3,c,d,ih _ _ _ g,j⟩)
   exact Or.inr (Or.inr ⟨q,t,e0,h1,ih _ _ _ h2,h3⟩)
  ·unfold Pp at h ⊢;obtain⟨L,h1,h2,h3⟩:=h;exact⟨L,h1,λx l=>ih _ _ _ (h2 x l),h3⟩
  unfold Pp at h ⊢;rcases h with h|⟨r,b,q,i,e2,h1,h2,h3,c,d,g⟩
  ·exact Or.inl (ih _ _ _ h)
  exact Or.inr ⟨r,b,q,i,e2,h1,h2,h3,ih _ _ _ c,ih _ _ _ d,g⟩
variable {s:ByteArray}{kd:Int}{ck:List Int}{ts:List Tq}{b c d g k n:Nat}{f:N_}{e:Rx}
theorem Lc {f:Nat} (h:Pp f k ts e) (y:f<=g):Pp g k ts e:=by
 induction g with
 |zero=>
   have:f=0:=by omega
   subst this;exact h
 |succ g ih=>
  by_cases e:f=g+1
  ·subst e;exact h
  exact QK _ _ _ _ (ih (by omega))
variable {e2:Rx}
theorem Ee {f:Nat}{p r:List Tq}{y:Rx} (h1:Pp f 0 p y) (h2:Pp f 2 r e2):∃e,Pp (f+2) 2 (p++r) e:=by
 have row:∀(f:Nat) (r:List Tq) (e2:Rx),Pp f 0 p y->Pp f 1 r e2->∃e,Pp (f+1) 1 (p++r) e:=λf r e2 h1 h2=>by
  rcases f with _|f
  ·exact absurd h1 (by simp[Pp])
  obtain⟨L,g1,g2,_⟩:=h2;refine⟨_,(p,y)::L,by rw[g1];simp,λx c=>?_,rfl⟩;rcases ZR.1 c with rfl|c
  ·exact h1
  exact QK _ _ _ _ (g2 x c)
 rcases f with _|f
 ·exact absurd h1 (by simp[Pp])
 rcases h2 with h|⟨d,b,q,g,i,k1,j,k,l,m,_⟩
 ·obtain⟨e,a⟩:=row (f+1) r e2 h1 (QK _ _ _ _ h);exact⟨e,Or.inl a⟩
 obtain⟨e,a⟩:=row (f+1) d g h1 (QK _ _ _ _ l);exact⟨_,Or.inr ⟨p++d,b,q,e,i,by rw[k1];simp,j,k,a,Lc m (by omega),rfl⟩⟩
theorem Up {a b:List Tk} (h:ts.map Tq.t=a++b):∃x y,ts=x++y/\x.map Tq.t=a/\y.map Tq.t=b:=by
 refine⟨ts.take a.length,ts.drop a.length,(List.take_append_drop _ _).symm,?_,?_⟩
 ·rw[List.map_take,h,List.take_left'];rfl
 rw[List.map_drop,h,List.drop_left'];rfl
theorem Ef:∀(f:Nat) (g:Bool) (ts:List Tq) (V:Int),(∀q∈ts,UQ q)->Is f g (ts.map Tq.t) V->∃F e,Pp F (if g then 2 else 0) ts e:=by
 intro f
 induction f with
 |zero=>intro g ts V _ h;exact absurd h (by simp[Is])
 |succ f ih=>
  intro g ts V i h;cases g
  ·unfold Is at h;rcases h with ⟨t,h1,h2,h3,_⟩|⟨a,inn,b,h1,h2,h3,m,D,E⟩|⟨q,t,A,h1,h2,h3,m,_⟩
   ·rcases ts with _|⟨q,_|⟨M,ts⟩⟩
    ·simp at h1
    ·simp at h1;exact⟨1,.lit q.f,Or.inl ⟨q,rfl,i q (by simp),by rw[h1];exact h3,rfl⟩⟩
    simp at h1
   ·obtain⟨x,y,c,e2,d⟩:=Up (a:=[a]) (b:=inn++[b]) (by rw[h1];rfl);obtain⟨w,H,n,C,l⟩:=Up d;rcases x with _|⟨x,_|⟨x2,xs⟩⟩
    ·simp at e2
    rotate_left
    ·simp at e2
    rcases H with _|⟨z,_|⟨I,J⟩⟩
    ·simp at l
    rotate_left
    ·simp at l
    simp at e2 l;obtain⟨F,e,k⟩:=ih true w V (λq j=>i q (by rw[c,n];simp[j])) (by rw[C];exact E);exact⟨F+1,e.nz,Or.inr (Or.inl ⟨x,w,z,e,by rw[c,n];rfl,i x (by rw[c];simp),by rw[e2];exact h3,i z (by rw[c,n];simp),by rw[l];exact D,k,rfl⟩)⟩
   obtain⟨x,y,c,e2,d⟩:=Up h1;rcases y with _|⟨z,_|⟨I,J⟩⟩
   ·simp at d
   rotate_left
   ·simp at d
   simp at d;obtain⟨F,e,k⟩:=ih false x A (λq j=>i q (by rw[c];simp[j])) (by rw[e2];exact h2);exact⟨F+1,_,Or.inr (Or.inr ⟨x,z,e,c,k,i z (by rw[c];simp),by rw[d];exact m,rfl⟩)⟩
  unfold Is at h;rcases h with ⟨h1,_⟩|⟨t,r,h1,h2,h3,m⟩|⟨p,r,A,B,h1,h2,h3,_,_⟩
  ·have:ts=[]:=by simpa using h1
   subst this;exact⟨2,Rx.rowOf [],Or.inl ⟨[],rfl,by simp,rfl⟩⟩
  ·obtain⟨x,y,c,e2,d⟩:=Up (a:=[t]) (b:=r) (by rw[h1];rfl);rcases x with _|⟨x,_|⟨x2,xs⟩⟩
   ·simp at e2
   rotate_left
   ·simp at e2
   simp at e2;obtain⟨F,e,k⟩:=ih true y V (λq j=>i q (by rw[c];simp[j])) (by rw[d];exact m);exact⟨F+2,_,Or.inr ⟨[],x,y,Rx.rowOf [],e,by rw[c];rfl,i x (by rw[c];simp),by rw[e2];exact h3,⟨[],rfl,by simp,rfl⟩,QK _ _ _ _ k,rfl⟩⟩
  obtain⟨x,y,c,e2,d⟩:=Up h1;obtain⟨u,K,o⟩:=ih false x A (λq j=>i q (by rw[c];simp[j])) (by rw[e2];exact h2);obtain⟨v,L,s⟩:=ih true y B (λq j=>i q (by rw[c];simp[j])) (by rw[d];exact h3);obtain⟨e,G⟩:=Ee (Lc o (Nat.le_max_left u v)) (Lc s (Nat.le_max_right u v));exact⟨_,e,by rw[c];exact G⟩
theorem Ha (s:ByteArray) (h:(Pg.readParts (Y7 s) s.size).ok=true):∃qs f e,X8 (qs.map Tq.t)=s.data.toList/\(∀q∈qs,UQ q)/\XU (Np s) (Pg.readParts (Y7 s) s.size).ps qs/\Pp f 2 qs e:=by
 unfold Pg.readParts at h ⊢;obtain⟨ps,qs,h1,h2,h3,g,j⟩:=Fg s ((s.size:Int).toNat+1) 0 0 0 [] (by omega) (by omega) h;have d:∀t r,qs.map Tq.t=t::r->¬Yc t:=by
  intro t r e hs;rw[e]at h3;have:=h3.2.1;unfold Yc at hs;simp[Pg.canStand,Pg.endsPiece,Pg.isSuffix]at this;rcases hs with h|h|h|h<;>simp[h]at this
 obtain⟨f,inn,rest,V,g1,g2,i⟩:=Df (qs.map Tq.t).length (qs.map Tq.t) 0 0 (Zg _) (Int.le_refl _) h3 d;have a:rest=[]:=by
  rcases i with ⟨h,_⟩|⟨b,r,_,_,_,h,_⟩
  ·exact h
  omega
 rw[a,List.append_nil]at g1;obtain⟨F,e,k⟩:=Ef f true qs V g (by rw[g1];exact g2);have c:(Pg.partsFrom (Y7 s) (s.size:Int) ((s.size:Int).toNat+1) 0 0 0 []).ps=ps:=by
  have:=h1;rw[List.nil_append]at this;exact this
 refine⟨qs,F,e,by rw[h2];rfl,g,?_,k⟩;rw[c];exact j
theorem C4 {t:Tk} (h3:UV t) (y:Yc t) (le:Nat) (e0:Rx):((Rx.suf t.kd le t.mo.toNat e0).sz:Int)=if t.kd=8 then (e0.sz:Int)*t.mo else e0.sz:=by
 unfold Rx.suf;unfold Yc at y;by_cases a:t.kd=8
 ·rw[g_,g_,g_,if_pos a,Rx.copies_sz];have:=(NY h3 a).1;rw[Int.natCast_mul,Int.mul_comm,Int.toNat_of_nonneg this]
 rw[if_neg a];by_cases b:t.kd=5
 ·rw[if_pos b];rfl
 rw[if_neg b];by_cases c:t.kd=6
 ·rw[if_pos c];rfl
 rw[if_neg c,p_];rfl
theorem SJ:∀(f k:Nat) (ts:List Tq) (e:Rx),Pp f k ts e->(∀q∈ts,UQ q)/\∃F,(k=0->Is F false (ts.map Tq.t) e.sz/\∃q r,ts=q::r/\(q.t.kd=1\/q.t.kd=2))/\(k=1->∀G r V,Is G true r V->(∀t r',r=t::r'->¬Yc t)->∃F',Is F' true (ts.map Tq.t++r) (e.sz+V))/\(2<=k->Is F true (ts.map Tq.t) e.sz):=by
 intro f
 induction f with
 |zero=>intro k ts e h;exact absurd h (by simp[Pp])
 |succ f ih=>
  intro k ts e h;rcases k with _|_|k
  ·unfold Pp at h;rcases h with ⟨q,rfl,h2,h3,rfl⟩|⟨a,inn,b,e0,rfl,h2,h3,d,s,C,rfl⟩|⟨q,t,e0,rfl,h2,h3,d,rfl⟩
   ·exact⟨by simpa using h2,1,λ_=>⟨Or.inl ⟨q.t,rfl,h2.1,h3,rfl⟩,q,[],rfl,Or.inl h3⟩,(λh=>by omega),λh=>by omega⟩
   ·obtain⟨k1,F,_,_,n⟩:=ih 2 inn e0 C;refine⟨λq i=>?_,F+1,λ_=>⟨Or.inr (Or.inl ⟨a.t,inn.map Tq.t,b.t,by simp,h2.1,h3,d.1,s,by rw[Rx.nz_sz];exact n (by omega)⟩),a,_,rfl,Or.inr h3⟩,(λh=>by omega),λh=>by omega⟩;simp only[ZR,ZU,List.not_mem_nil,or_false]at i;rcases i with rfl|i|rfl
    ·exact h2
    ·exact k1 q i
    exact d
   obtain⟨k1,F,c,_,_⟩:=ih 0 q e0 h2;obtain⟨c,J,K,o,z⟩:=c rfl;refine⟨λx j=>?_,F+1,λ_=>⟨Or.inr (Or.inr ⟨q.map Tq.t,t.t,_,by simp,c,h3.1,d,?_⟩),J,K++[t],by rw[o];rfl,z⟩,(λh=>by omega),λh=>by omega⟩
   ·rcases ZU.1 j with h|h
    ·exact k1 x h
    rw[ZC.1 h];exact h3
   rw[Rx.nz_sz];exact C4 h3.1 d _ _
  ·unfold Pp at h;obtain⟨L,rfl,h2,rfl⟩:=h;refine⟨λq i=>?_,0,(λh=>by omega),λ_=>?_,λh=>by omega⟩
   ·obtain⟨l,H,w⟩:=List.mem_flatten.1 i;obtain⟨x,j,rfl⟩:=List.mem_map.1 H;exact(ih 0 x.1 x.2 (h2 x j)).1 q w
   intro G r V D v
   induction L with
   |nil=>exact⟨G,by simpa[Rx.rowOf,Rx.sz]using D⟩
   |cons x L ihL=>
    obtain⟨F',m⟩:=ihL (λy I=>h2 y (by simp[I]));obtain⟨_,A,c,_,_⟩:=ih 0 x.1 x.2 (h2 x (by simp));obtain⟨c,_⟩:=c rfl;refine⟨max A F'+1,?_⟩;rw[Rx.rowOf_sz];rw[Rx.rowOf_sz]at m;refine Or.inr (Or.inr ⟨x.1.map Tq.t,_,_,_,?_,O9 c (Nat.le_max_left _ _),O9 m (Nat.le_max_right _ _),?_,?_⟩)
    ·simp
    ·simp;omega
    intro t r' g;rcases L with _|⟨y,L⟩
    ·exact v t r' (by simpa using g)
    obtain⟨_,_,n,_,_⟩:=ih 0 y.1 y.2 (h2 y (by simp));obtain⟨_,q,M,o,z⟩:=n rfl;have:q.t=t:=by
     rw[List.map_cons,List.flatten_cons]at g;rw[show(y.1)=q::M from o]at g;simp at g;exact g.1
    rw[<-this];unfold Yc;omega
  unfold Pp at h;rcases h with h|⟨r,b,q,p,e2,rfl,h2,h3,d,s,rfl⟩
  ·obtain⟨k1,F,_,c,_⟩:=ih 1 ts e h;obtain⟨F',u⟩:=c rfl 1 [] 0 (Or.inl ⟨rfl,rfl⟩) (by simp);exact⟨k1,F',(λh=>by omega),(λh=>by omega),λ_=>by simpa using u⟩
  obtain⟨k1,F,_,c,_⟩:=ih 1 r p d;obtain⟨n,B,_,_,o⟩:=ih 2 q e2 s;have E:Is (B+1) true (b.t::q.map Tq.t) e2.sz:=Or.inr (Or.inl ⟨b.t,_,rfl,h2.1,h3,o (by omega)⟩);obtain⟨F',u⟩:=c rfl _ _ _ E (by
   intro t r' g;cases g;unfold Yc;omega)
  refine⟨λx j=>?_,F',(λh=>by omega),(λh=>by omega),λ_=>?_⟩
  ·simp only[ZU,ZR]at j;rcases j with h|rfl|h
   ·exact k1 x h
   ·exact h2
   exact n x h
  have:((Rx.alt p e2).sz:Int)=(p.sz:Int)+(e2.sz:Int):=by simp[Rx.sz]
  rw[this,List.map_append,List.map_cons];exact u
def Pz:List Int->Int->Nat->Nat
 |[],_,i=>i
 |k::ks,op,i=>if k=4/\op=0 then i else Pz ks (op+Pg.opn k) (i+1)
def UH:List Int->Int->Nat->Nat
 |[],_,i=>i
 |k::ks,op,i=>if op+Pg.opn k=0 then i+1 else UH ks (op+Pg.opn k) (i+1)
def kds (ts:List Tq):List Int:=ts.map λq=>q.t.kd
theorem U6 (a b:List Tq):kds (a++b)=kds a++kds b:=by simp[kds]
theorem Pi (a:List Tq):(kds a).length=a.length:=by simp[kds]
theorem DP {k:Int} (h:k=5\/k=6\/k=7\/k=8):Pg.opn k=0:=by unfold Pg.opn;rw[g_,g_]
theorem JW:∀(f k:Nat) (ts:List Tq) (e:Rx),Pp f k ts e ->
  (∀(op:Int) (i:Nat) (rest:List Int),1<=op->UH (kds ts++rest) op i=UH rest op (i+ts.length)) /\
  (∀(op:Int) (i:Nat) (rest:List Int),1<=op\/(op=0/\k<=1)->Pz (kds ts++rest) op i=Pz rest op (i+ts.length)) /\
  (k=0->∃m,1<=m/\m<=ts.length/\(∀i rest,UH (kds ts++rest) 0 i=i+m)/\∀q∈ts.drop m,Yc q.t):=by
 intro f
 induction f with
 |zero=>intro k ts e h;exact absurd h (by simp[Pp])
 |succ f ih=>
  intro k ts e h;rcases k with _|_|k
  ·unfold Pp at h;rcases h with ⟨q,rfl,h2,h3,rfl⟩|⟨a,inn,b,e0,rfl,h2,h3,o,p,B,rfl⟩|⟨q,t,e0,rfl,h2,h3,o,rfl⟩
   ·have l:Pg.opn q.t.kd=0:=by rw[h3];rfl
    refine⟨λop i rest c=>?_,λop i rest c=>?_,λ_=>⟨1,by omega,by simp,λi rest=>?_,by simp⟩⟩
    ·simp only[kds,List.map_cons,List.map_nil,Zt,List.nil_append,UH,l,Int.add_zero];rw[g_];rfl
    ·simp only[kds,List.map_cons,List.map_nil,Zt,List.nil_append,Pz,l,Int.add_zero];rw[g_];rfl
    simp[kds,UH,l]
   ·obtain⟨g,n,_⟩:=ih 2 inn e0 B;have ha:Pg.opn a.t.kd=1:=by rw[h3];rfl
    have s:Pg.opn b.t.kd=-1:=by rw[p];rfl
    have d:kds (a::(inn++[b]))=a.t.kd::(kds inn++[b.t.kd]):=by simp[kds]
    have j:(a::(inn++[b])).length=inn.length+2:=by simp
    refine⟨λop i rest c=>?_,λop i rest c=>?_,λ_=>⟨inn.length+2,by omega,by simp,λi rest=>?_,λq v=>?_⟩⟩
    ·rw[d,Zt,UH,ha,g_,Zs,g _ _ _ (by omega),List.singleton_append,UH,s,g_,j];congr 1<;>omega
    ·rw[d,Zt,Pz,ha,g_,Zs,n _ _ _ (Or.inl (by omega)),List.singleton_append,Pz,s,g_,j];congr 1<;>omega
    ·rw[d,Zt,UH,ha,g_,Zs,g _ _ _ (by omega),List.singleton_append,UH,s,p_];omega
    rw[List.drop_of_length_le (by rw[j];omega)]at v;cases v
   obtain⟨g,n,C⟩:=ih 0 q e0 h2;obtain⟨m,F,m2,G,H⟩:=C rfl;have l:Pg.opn t.t.kd=0:=DP (by unfold Yc at o;omega);have A:t.t.kd≠4:=by unfold Yc at o;omega
   have d:kds (q++[t])=kds q++[t.t.kd]:=by simp[kds]
   have j:(q++[t]).length=q.length+1:=by simp
   refine⟨λop i rest c=>?_,λop i rest c=>?_,λ_=>⟨m,F,by omega,λi rest=>?_,λx w=>?_⟩⟩
   ·rw[d,Zs,g _ _ _ c,List.singleton_append,UH,l,g_,j];congr 1;omega
   ·rw[d,Zs,n _ _ _ c,List.singleton_append,Pz,l,g_,j];congr 1;omega
   ·rw[d,Zs];exact G _ _
   rw[List.drop_append_of_le_length m2]at w;rcases ZU.1 w with h|h
   ·exact H x h
   rw[ZC.1 h];exact o
  ·unfold Pp at h;obtain⟨L,rfl,h2,rfl⟩:=h;refine⟨λop i rest c=>?_,λop i rest c=>?_,λh=>by omega⟩
   ·induction L generalizing i with
    |nil=>simp[kds]
    |cons x L ihL=>
     obtain⟨g,_,_⟩:=ih 0 x.1 x.2 (h2 x (by simp));have:=ihL (λy u=>h2 y (by simp[u])) (i+x.1.length);rw[List.map_cons,List.flatten_cons,U6,Zs,g _ _ _ c,this,Zl];congr 1;omega
   induction L generalizing i with
   |nil=>simp[kds]
   |cons x L ihL=>
    obtain⟨_,n,_⟩:=ih 0 x.1 x.2 (h2 x (by simp));have:=ihL (λy u=>h2 y (by simp[u])) (i+x.1.length);rw[List.map_cons,List.flatten_cons,U6,Zs,n _ _ _ (by omega),this,Zl];congr 1;omega
  unfold Pp at h;rcases h with h|⟨r,b,q,z,e2,rfl,h2,h3,o,p,rfl⟩
  ·obtain⟨g,n,_⟩:=ih 1 ts e h;exact⟨g,λop i rest c=>n op i rest (by omega),λh=>by omega⟩
  obtain⟨g,n,_⟩:=ih 1 r z o;obtain⟨D,E,_⟩:=ih 2 q e2 p;have l:Pg.opn b.t.kd=0:=by rw[h3];rfl
  have d:kds (r++b::q)=kds r++(b.t.kd::kds q):=by simp[kds]
  have j:(r++b::q).length=r.length+1+q.length:=by simp;omega
  refine⟨λop i rest c=>?_,λop i rest c=>?_,λh=>by omega⟩
  ·rw[d,Zs,g _ _ _ c,Zt,UH,l,g_,Int.add_zero,D _ _ _ c,j];congr 1;omega
  rw[d,Zs,n _ _ _ (by omega),Zt,Pz,l,g_,Int.add_zero,E _ _ _ (by omega),j];congr 1;omega
def Sm (p:Pg.Pt) (q:Tq):Prop:=p.kd=q.t.kd/\p.mo=q.t.mo/\p.f=q.f/\(p.kd=8->p.le=q.le)
theorem XU.len {α β:Type}{R:α->β->Prop}{l:List α}{m:List β} (h:XU R l m):l.length=m.length:=by
 induction h with
 |nil=>rfl
 |cons h t ih=>simp[ih]
theorem XU.split {α β:Type}{R:α->β->Prop}:∀(a:List β) (b:List β) (l:List α),XU R l (a++b)->XU R (l.take a.length) a/\XU R (l.drop a.length) b
 |[],b,l,h=>⟨by simpa using XU.nil,by simpa using h⟩
 |x::a,b,l,h=>by
  cases h with
  |cons h t=>
   obtain⟨h1,h2⟩:=XU.split a b _ t;exact⟨by simpa using XU.cons h h1,by simpa using h2⟩
theorem XU.kds {ps:List Pg.Pt}{ts:List Tq} (h:XU Sm ps ts):ps.map (λp=>p.kd)=kds ts:=by
 induction h with
 |nil=>rfl
 |cons h t ih=>
  simp only[List.map_cons,ih,Go.Proofs.YtoaaklhpmhjhkaaGreat.kds];rw[h.1]
theorem XU.two {ps:List Pg.Pt} (h:XU Sm ps ts):ps.map (λp=>(p.kd,p.mo))=(ts.map Tq.t).map (λt=>(t.kd,t.mo)):=by
 induction h with
 |nil=>rfl
 |cons h t ih=>simp only[List.map_cons,ih];rw[h.1,h.2.1]
theorem JP {f:Nat}{ps:List Pg.Pt} (h:Pp f 0 ts e) (y:XU Sm ps ts):Pg.countPlaces ps=Pg.capped e.sz:=by
 obtain⟨_,F,j,_,_⟩:=SJ f 0 ts e h;obtain⟨g,_⟩:=j rfl;obtain⟨i,d,_⟩:=machine F false (ts.map Tq.t) e.sz g;have c:=d rfl ⟨0,0,[]⟩ (by simp) (by simp);rw[Pg.countPlaces,Ry ps ((ts.map Tq.t).map Vr) (by rw[y.two];simp[Vr]),c];simp only;have h0:Pg.capped (0+0)=0:=rfl;have h1:=TK (a:=(e.sz:Int)) (b:=0) i (by omega);rw[h0,show(0:Int)+Pg.capped (e.sz:Int)=Pg.capped (e.sz:Int)+0 by omega,h1];simp
theorem JM:Pg.capped (n:Int)=0<->n=0:=by rw[VU];split<;>omega
theorem KV (s:ByteArray) (h:(Pg.readParts (Y7 s) s.size).ok=true):∃e qs f,X8 (qs.map Tq.t)=s.data.toList/\(∀q∈qs,UQ q)/\XU (Np s) (Pg.readParts (Y7 s) s.size).ps qs/\Pp f 2 qs e:=by
 obtain⟨qs,f,e,h1,h2,h3,a⟩:=Ha s h;exact⟨e,qs,f,h1,h2,h3,a⟩
open Classical in
noncomputable def Si (s:ByteArray):Rx:=if h:(Pg.readParts (Y7 s) s.size).ok=true then Classical.choose (KV s h) else .eps
theorem SB (s:ByteArray) (h:(Pg.readParts (Y7 s) s.size).ok=true):∃qs f,X8 (qs.map Tq.t)=s.data.toList/\(∀q∈qs,UQ q)/\XU (Np s) (Pg.readParts (Y7 s) s.size).ps qs/\Pp f 2 qs (Si s):=by
 have:=Classical.choose_spec (KV s h);unfold Si;rw[dif_pos h];exact this
theorem XU.twoP {ps:List Pg.Pt} (h:XU (Np s) ps ts):ps.map (λp=>(p.kd,p.mo))=(ts.map Tq.t).map (λt=>(t.kd,t.mo)):=by
 induction h with
 |nil=>rfl
 |cons h t ih=>simp only[List.map_cons,ih];rw[h.1,h.2.1]
theorem MJ {f:Nat}{ps:List Pg.Pt} (h:Pp f 2 ts e) (hb:ps.map (λp=>(p.kd,p.mo))=(ts.map Tq.t).map (λt=>(t.kd,t.mo))):Pg.countPlaces ps=Pg.capped e.sz:=by
 obtain⟨_,F,_,_,g⟩:=SJ f 2 ts e h;have c:=g (Zg _);obtain⟨j,_,d⟩:=machine F true (ts.map Tq.t) e.sz c;obtain⟨i,k,a,_,_,b⟩:=d rfl ⟨0,0,[]⟩ (by simp) (by simp);rw[Pg.countPlaces,Ry ps ((ts.map Tq.t).map Vr) (by rw[hb];simp[Vr]),a];simp only;rw[b];simp
theorem SA (s:ByteArray) (h:(Pg.readParts (Y7 s) s.size).ok=true):Pg.countPlaces (Pg.readParts (Y7 s) s.size).ps=Pg.capped (Si s).sz:=by
 obtain⟨b,f,_,_,h3,a⟩:=SB s h;exact MJ a h3.twoP
def Y2 (es:Nat->Rx):Nat->Nat
 |0=>0
 |k+1=>Y2 es k+(es k).sz
theorem XY (es:Nat->Rx) {a b:Nat} (h:a<=b):Y2 es a<=Y2 es b:=by
 induction b with
 |zero=>
   have:a=0:=by omega
   subst this;exact Zg _
 |succ b ih=>
  by_cases e:a=b+1
  ·subst e;exact Zg _
  have:=ih (by omega);simp only[Y2];omega
theorem Pl (es:Nat->Rx) (u:Nat->Int):∀n,(∀i,i<n->u i=Pg.capped (es i).sz)->¬96<Ye u n->Ye u n=(Y2 es n:Int)/\Y2 es n<=96:=by
 intro n d hs;have h2:=(LY (u:=u) (v:=λi=>((es i).sz:Int)) n (λi c=>⟨by omega,d i c⟩));have h3:∀m,Ye (λi=>((es i).sz:Int)) m=(Y2 es m:Int):=by
  intro m
  induction m with
  |zero=>rfl
  |succ m ih=>simp only[Ye,Y2,ih];omega
 rw[h3]at h2;have a:¬96<(Y2 es n:Int):=λh=>hs (h2.1.2 h)
 have b:=h2.2 a;exact⟨b,by omega⟩
end
section
open Go.RowKit
namespace Rx
theorem nul_or_fst:∀(e:Rx) (o:Nat),e.nul=true\/∃p,e.fst o p=true
 |eps,_=>Or.inl rfl
 |lit _,o=>Or.inr ⟨o,by simp[fst]⟩
 |cat a b,o=>by
  rcases nul_or_fst a o with h|⟨p,h⟩
  ·rcases nul_or_fst b (o+a.sz)with k|⟨p,k⟩
   ·exact Or.inl (by simp[nul,h,k])
   exact Or.inr ⟨p,by simp[fst,h,k]⟩
  exact Or.inr ⟨p,by simp[fst,h]⟩
 |alt a b,o=>by
  rcases nul_or_fst a o with h|⟨p,h⟩
  ·exact Or.inl (by simp[nul,h])
  exact Or.inr ⟨p,by simp[fst,h]⟩
 |star _,_=>Or.inl rfl
 |plus a,o=>nul_or_fst a o
 |opt _,_=>Or.inl rfl
inductive Rch (e:Rx) (o:Nat):Nat->Prop
 |last {p:Nat} (h:e.lst o p=true):Rch e o p
 |next {p q:Nat} (h:e.fol o p q=true) (k:Rch e o q):Rch e o p
theorem rch_any:∀(e:Rx) (o p:Nat),o<=p->p<o+e.sz->Rch e o p
 |eps,o,p,h1,h2=>by simp[sz]at h2;omega
 |lit _,o,p,h1,h2=>.last (by simp[sz]at h2;simp[lst];omega)
 |cat a b,o,p,h1,h2=>by
  have c:∀q,Rch b (o+a.sz) q->Rch (cat a b) o q:=λq h=>by
   induction h with
   |last h=>exact .last (by simp[lst,h])
   |next h k ih=>exact .next (by simp[fol,h]) ih
  have ha:∀q,Rch a o q->Rch (cat a b) o q:=λq h=>by
   induction h with
   |last h=>
    rcases nul_or_fst b (o+a.sz)with k|⟨x,k⟩
    ·exact .last (by simp[lst,h,k])
    have d:=fst_rng b _ x k;exact .next (q:=x) (by simp[fol,h,k]) (c x (rch_any b _ x d.1 d.2))
   |next h k ih=>exact .next (by simp[fol,h]) ih
  simp only[sz]at h2;rcases ZD p (o+a.sz)with h|h
  ·exact ha p (rch_any a o p h1 h)
  exact c p (rch_any b _ p h (by omega))
 |alt a b,o,p,h1,h2=>by
  have c:∀q,Rch b (o+a.sz) q->Rch (alt a b) o q:=λq h=>by
   induction h with
   |last h=>exact .last (by simp[lst,h])
   |next h k ih=>exact .next (by simp[fol,h]) ih
  have ha:∀q,Rch a o q->Rch (alt a b) o q:=λq h=>by
   induction h with
   |last h=>exact .last (by simp[lst,h])
   |next h k ih=>exact .next (by simp[fol,h]) ih
  simp only[sz]at h2;rcases ZD p (o+a.sz)with h|h
  ·exact ha p (rch_any a o p h1 h)
  exact c p (rch_any b _ p h (by omega))
 |star a,o,p,h1,h2=>by
  have ha:∀q,Rch a o q->Rch (star a) o q:=λq h=>by
   induction h with
   |last h=>exact .last h
   |next h k ih=>exact .next (by simp[fol,h]) ih
  exact ha p (rch_any a o p h1 h2)
 |plus a,o,p,h1,h2=>by
  have ha:∀q,Rch a o q->Rch (plus a) o q:=λq h=>by
   induction h with
   |last h=>exact .last h
   |next h k ih=>exact .next (by simp[fol,h]) ih
  exact ha p (rch_any a o p h1 h2)
 |opt a,o,p,h1,h2=>by
  have ha:∀q,Rch a o q->Rch (opt a) o q:=λq h=>by
   induction h with
   |last h=>exact .last h
   |next h k ih=>exact .next h ih
  exact ha p (rch_any a o p h1 h2)
def Full:Rx->Prop
 |eps=>True
 |lit f=>∃b,b<256/\f b=true
 |cat a b=>a.Full/\b.Full
 |alt a b=>a.Full/\b.Full
 |star a=>a.Full
 |plus a=>a.Full
 |opt a=>a.Full
theorem full_has:∀(e:Rx) (o p:Nat),e.Full->o<=p->p<o+e.sz->∃b,b<256/\e.has o p b=true
 |eps,o,p,_,h1,h2=>by simp[sz]at h2;omega
 |lit f,o,p,hf,h1,h2=>by
  obtain⟨b,h3,d⟩:=hf;have:p=o:=by simp[sz]at h2;omega
  exact⟨b,h3,by simp[has,this,d]⟩
 |cat a b,o,p,hf,h1,h2=>by
  simp only[sz]at h2;rcases ZD p (o+a.sz)with h|h
  ·obtain⟨c,h3,d⟩:=full_has a o p hf.1 h1 h;exact⟨c,h3,by simp[has,d]⟩
  obtain⟨c,h3,d⟩:=full_has b _ p hf.2 h (by omega);exact⟨c,h3,by simp[has,d]⟩
 |alt a b,o,p,hf,h1,h2=>by
  simp only[sz]at h2;rcases ZD p (o+a.sz)with h|h
  ·obtain⟨c,h3,d⟩:=full_has a o p hf.1 h1 h;exact⟨c,h3,by simp[has,d]⟩
  obtain⟨c,h3,d⟩:=full_has b _ p hf.2 h (by omega);exact⟨c,h3,by simp[has,d]⟩
 |star a,o,p,hf,h1,h2=>full_has a o p hf h1 h2
 |plus a,o,p,hf,h1,h2=>full_has a o p hf h1 h2
 |opt a,o,p,hf,h1,h2=>full_has a o p hf h1 h2
variable {e:Rx}
theorem nz_full (h:e.Full):e.nz.Full:=by unfold nz;split<;>first|trivial|exact h
theorem row_full {l:List Rx} (h:∀x∈l,x.Full):(rowOf l).Full:=by
 have b:∀(l:List Rx) (a:Rx),a.Full->(∀x∈l,x.Full)->(l.foldl cat a).Full:=by
  intro l
  induction l with
  |nil=>intro a h _;exact h
  |cons x l ih=>intro a h k;exact ih _ ⟨h,k x (by simp)⟩ (λy c=>k y (by simp[c]))
 exact b l eps trivial h
variable {kd:Int}
theorem suf_full {le mo:Nat} (h:e.Full):(suf kd le mo e).Full:=by
 unfold suf
 repeat' split
 ·exact h
 ·exact h
 ·exact h
 refine row_full (λx a=>?_);obtain⟨i,_,rfl⟩:=List.mem_map.1 a;split<;>exact h
end Rx
theorem DC:∀(f k:Nat) (ts:List Tq) (e:Rx),Pp f k ts e->(∀q∈ts,q.t.kd=1->∃b,b<256/\q.f b=true)->e.Full:=by
 intro f
 induction f with
 |zero=>intro k ts e h;exact absurd h (by simp[Pp])
 |succ f ih=>
  intro k ts e h d;rcases k with _|_|k
  ·unfold Pp at h;rcases h with ⟨q,rfl,h2,h3,rfl⟩|⟨a,inn,b,e0,rfl,h2,h3,g,i,m,rfl⟩|⟨q,t,e0,rfl,h2,h3,g,rfl⟩
   ·exact d q (by simp) h3
   ·exact Rx.nz_full (ih 2 inn e0 m (λq c=>d q (by simp[c])))
   exact Rx.nz_full (Rx.suf_full (ih 0 q e0 h2 (λx c=>d x (by simp[c]))))
  ·unfold Pp at h;obtain⟨L,rfl,h2,rfl⟩:=h;refine Rx.row_full (λx c=>?_);obtain⟨y,j,rfl⟩:=List.mem_map.1 c;refine ih 0 y.1 y.2 (h2 y j) (λq hz=>d q ?_);exact List.mem_flatten.2 ⟨y.1,List.mem_map.2 ⟨y,j,rfl⟩,hz⟩
  unfold Pp at h;rcases h with h|⟨r,b,q,l,e2,rfl,h2,h3,g,i,rfl⟩
  ·exact ih 1 ts e h d
  exact⟨ih 1 r l g (λx c=>d x (by simp[c])),ih 2 q e2 i (λx c=>d x (by simp[c]))⟩
variable {s:ByteArray}{ck:List Int}{b c d k n:Nat}{f:N_}
theorem CG:∀n,Rf.cntTo f n≠0->∃b,b<n/\f b=true:=by
 intro n
 induction n with
 |zero=>intro h;exact absurd rfl h
 |succ n ih=>
  intro h;by_cases a:f n=true
  ·exact⟨n,by omega,a⟩
  obtain⟨b,h1,h2⟩:=ih (λh0=>h (by simp[Rf.cntTo,a,h0]));exact⟨b,by omega,h2⟩
theorem MO:∀(ps:List Pg.Pt),(∀p∈ps,0<=p.pl)->Pg.matchless ps=-1->∀p∈ps,p.kd=1->Rf.cntTo p.f 256≠0:=by
 intro ps
 induction ps with
 |nil=>intro _ _ p d;cases d
 |cons x ps ih=>
  intro a b p d h1 h0;rw[Pg.matchless]at b;by_cases c:x.kd=1/\Rf.cntTo x.f 256=0
  ·rw[if_pos c]at b;have:=a x (by simp);omega
  rw[if_neg c]at b;rcases ZR.1 d with rfl|h
  ·exact c ⟨h1,h0⟩
  exact ih (λq e=>a q (by simp[e])) b p h h1 h0
theorem Gb {ps:List Pg.Pt}{y:List Tq} (h3:XU (Np s) ps y):(∀p∈ps,p.kd=1->Rf.cntTo p.f 256≠0)->∀q∈y,q.t.kd=1->∃b,b<256/\q.f b=true:=by
 induction h3 with
 |nil=>intro _ q e;cases e
 |@cons a b l m hx t ih=>
  intro d q e h1;rcases ZR.1 e with h|e
  ·rw[h]at h1 ⊢;obtain⟨c,g,i⟩:=CG 256 (d a (by simp) (by rw[hx.1];exact h1));exact⟨c,g,by rw[<-hx.2.2.1];exact i⟩
  exact ih (λp j=>d p (by simp[j])) q e h1
theorem LX (s:ByteArray) (h:(Pg.wrong (Y7 s) s.size).1=0):(Si s).Full:=by
 have a:=((XT s).2 h);obtain⟨_,i,a⟩:=a;obtain⟨m,f,_,_,h3,g⟩:=SB s a;have c:Pg.matchless (Pg.readParts (Y7 s) s.size).ps=-1:=by
  unfold Pg.wrong at h;rw[g_]at h;simp only[a,if_true]at h;by_cases h1:Pg.tooDeep (Pg.readParts (Y7 s) s.size).ps 0=-1
  ·rw[if_pos h1]at h;by_cases h2:Pg.falling (Pg.readParts (Y7 s) s.size).ps=-1
   ·rw[if_pos h2]at h;by_cases h3:Pg.matchless (Pg.readParts (Y7 s) s.size).ps=-1
    ·exact h3
    rw[if_neg h3]at h;cases h
   rw[if_neg h2]at h;cases h
  rw[if_neg h1]at h;cases h
 have d:∀p∈(Pg.readParts (Y7 s) s.size).ps,0<=p.pl:=by
  have e:=PW s ((s.size:Int).toNat+1) 0 0 0 0 [] (by omega) (by omega) (by omega);have k:Pg.partsFrom (Y7 s) s.size ((s.size:Int).toNat+1) 0 0 ((0:Nat):Int) []=Pg.readParts (Y7 s) s.size:=rfl;rw[k]at e;rcases e with ⟨h1,_⟩|⟨ps,_,h2,_,_,_,_,j⟩
  ·rw[h1]at a;cases a
  rw[h2,List.nil_append];exact λp l=>(j p l).1
 have b:=MO _ d c;exact DC f 2 m _ g (Gb h3 b)
end
section
namespace Pk
def ld (nx:Nat->Int) (n:Nat) (s:Int) (c:Nat):Int:=if s=-1 then -1 else nx (s.toNat*n+c)
theorem ld_none (nx:Nat->Int) (n c:Nat):ld nx n (-1) c=-1:=if_pos rfl
theorem ld_nat (nx:Nat->Int) (n s c:Nat):ld nx n (s:Int) c=nx (s*n+c):=by
 rw[ld,g_,ZE]
def dif (nx:Nat->Int) (n:Nat) (s d:Int):Nat->List Nat
 |0=>[]
 |k+1=>if ld nx n s k=ld nx n d k then dif nx n s d k else dif nx n s d k++[k]
variable {c n:Nat}
theorem dif_mem {nx:Nat->Int}{s d:Int}:∀ {k:Nat},c∈dif nx n s d k<->c<k/\ld nx n s c≠ld nx n d c
 |0=>by simp[dif]
 |k+1=>by
  rw[dif];split
  ·rename_i h;rw[dif_mem];constructor
   ·rintro ⟨h1,h2⟩;exact⟨by omega,h2⟩
   rintro ⟨h1,h2⟩;refine⟨?_,h2⟩;by_cases e:c=k
   ·subst e;exact absurd h h2
   omega
  rename_i h;rw[ZU,dif_mem,ZC];constructor
  ·rintro (⟨h1,h2⟩|rfl)
   ·exact⟨by omega,h2⟩
   exact⟨by omega,h⟩
  rintro ⟨h1,h2⟩;by_cases e:c=k
  ·exact Or.inr e
  exact Or.inl ⟨by omega,h2⟩
theorem dif_len (nx:Nat->Int) (n:Nat) (s d:Int):∀k:Nat,(dif nx n s d k).length<=k
 |0=>by simp[dif]
 |k+1=>by
  rw[dif];have:=dif_len nx n s d k;split
  ·omega
  simp;omega
variable {k:Nat}
theorem dif_eq {nx:Nat->Int}{s d:Int} (h:ld nx n s k=ld nx n d k):dif nx n s d (k+1)=dif nx n s d k:=by rw[dif,if_pos h]
theorem dif_ne {nx:Nat->Int}{s d:Int} (h:¬ld nx n s k=ld nx n d k):dif nx n s d (k+1)=dif nx n s d k++[k]:=by rw[dif,if_neg h]
def near (nx:Nat->Int) (n s:Nat):Nat->Int × List Nat
 |0=>(-1,dif nx n s (-1) n)
 |d+1=>if (dif nx n s d n).length<(near nx n s d).2.length then ((d:Int),dif nx n s d n) else near nx n s d
variable {d:Nat}
theorem near_lt {nx:Nat->Int}{s:Nat} (h:(dif nx n s d n).length<(near nx n s d).2.length):near nx n s (d+1)=((d:Int),dif nx n s d n):=by rw[near,if_pos h]
theorem near_ge {nx:Nat->Int}{s:Nat} (h:¬(dif nx n s d n).length<(near nx n s d).2.length):near nx n s (d+1)=near nx n s d:=by rw[near,if_neg h]
theorem near_own (nx:Nat->Int) (n s:Nat):∀d,(near nx n s d).2=dif nx n s (near nx n s d).1 n
 |0=>rfl
 |d+1=>by
  by_cases h:(dif nx n s d n).length<(near nx n s d).2.length
  ·rw[near_lt h]
  rw[near_ge h];exact near_own nx n s d
theorem near_def (nx:Nat->Int) (n s:Nat):∀d,-1<=(near nx n s d).1/\(near nx n s d).1<d
 |0=>by simp[near]
 |d+1=>by
  have:=near_def nx n s d;by_cases h:(dif nx n s d n).length<(near nx n s d).2.length
  ·rw[near_lt h];simp only;omega
  rw[near_ge h];omega
def df (nx:Nat->Int) (n s:Nat):Int:=(near nx n s s).1
def own (nx:Nat->Int) (n s:Nat):List Nat:=(near nx n s s).2
theorem df_bd (nx:Nat->Int) (n s:Nat):-1<=df nx n s/\df nx n s<s:=near_def nx n s s
theorem own_lt {nx:Nat->Int}{s:Nat} (h:c∈own nx n s):c<n:=by
 unfold own at h;rw[near_own]at h;exact(dif_mem.1 h).1
def fr (ck:List Int) (b:Nat) (l:List Nat):Bool:=l.all λc=>ck.getD (b+c) (-1)==-1
variable {ck:List Int}{b:Nat}
theorem fr_iff {l:List Nat}:fr ck b l=true<->∀c∈l,ck.getD (b+c) (-1)=-1:=by
 unfold fr;rw[List.all_eq_true];simp
theorem fr_len (ck:List Int) (l:List Nat):fr ck ck.length l=true:=by
 rw[fr_iff];intro c _;rw[Zf,ZB (by omega)];rfl
def lf (p:Nat->Bool):Nat->Nat->Nat
 |0,b=>b
 |u+1,b=>if p b then b else lf p u (b+1)
theorem lf_spec (p:N_):∀(u b:Nat),p (b+u)=true->p (lf p u b)=true/\lf p u b<=b+u/\∀i,b<=i->i<lf p u b->p i=false
 |0,b,h=>⟨by simpa[lf]using h,by simp[lf],λi h1 h2=>by simp only[lf]at h2;omega⟩
 |u+1,b,h=>by
  rw[lf];by_cases e:p b=true
  ·rw[if_pos e];exact⟨e,by omega,λi h1 h2=>by omega⟩
  rw[if_neg e];obtain⟨h1,h2,h3⟩:=lf_spec p u (b+1) (by rw[show b+1+u=b+(u+1) by omega];exact h);refine⟨h1,by omega,λi c a=>?_⟩;by_cases e2:i=b
  ·subst e2;simpa using e
  exact h3 i (by omega) a
def bas (ck:List Int) (l:List Nat):Nat:=lf (λb=>fr ck b l) ck.length 0
theorem bas_spec (ck:List Int) (l:List Nat):fr ck (bas ck l) l=true/\bas ck l<=ck.length/\∀i,i<bas ck l->fr ck i l=false:=by
 obtain⟨h1,h2,h3⟩:=lf_spec (λb=>fr ck b l) ck.length 0 (by rw[Zn];exact fr_len ck l);exact⟨h1,by rw[Zn]at h2;exact h2,λi a=>h3 i (by omega) a⟩
theorem bas_eq {l:List Nat} (h:fr ck b l=true) (y:∀i,i<b->fr ck i l=false):bas ck l=b:=by
 obtain⟨h1,_,h3⟩:=bas_spec ck l;rcases Nat.lt_trichotomy (bas ck l) b with a|a|a
 ·rw[y _ a]at h1;cases h1
 ·exact a
 rw[h3 _ a]at h;cases h
def put (l:List Int) (k:Nat) (v:Int):List Int:=(l++List.replicate (k+1-l.length) (-1)).set k v
theorem put_len (l:List Int) (k:Nat) (v:Int):(put l k v).length=max l.length (k+1):=by
 unfold put;simp;omega
theorem put_at (l:List Int) (k:Nat) (v:Int) (i:Nat):(put l k v).getD i (-1)=if i=k then v else l.getD i (-1):=by
 unfold put;rw[Zf,Zf,List.getElem?_set];by_cases e:k=i
 ·subst e;rw[if_pos rfl,if_pos rfl,if_pos (by simp;omega)];rfl
 rw[if_neg e,if_neg (λh=>e h.symm)];by_cases h:i<l.length
 ·rw[Zv h]
 rw[ZG (by omega),ZB (l:=l) (by omega),List.getElem?_replicate];split<;>rfl
def lay (nx:Nat->Int) (n s b:Nat):List Nat->List Int × List Int->List Int × List Int
 |[],p=>p
 |c::r,p=>lay nx n s b r (put p.1 (b+c) s,put p.2 (b+c) (ld nx n s c))
theorem lay_append (nx:Nat->Int) (n s b:Nat):∀(l r:List Nat) (p:List Int × List Int),lay nx n s b (l++r) p=lay nx n s b r (lay nx n s b l p)
 |[],_,_=>rfl
 |c::l,r,p=>by rw[Zt,lay,lay_append nx n s b l,lay]
theorem lay_at (nx:Nat->Int) (n s b:Nat):∀(l:List Nat) (p:List Int × List Int) (i:Nat),
  ((∃c∈l,i=b+c/\(lay nx n s b l p).1.getD i (-1)=s/\(lay nx n s b l p).2.getD i (-1)=ld nx n s c)) \/
  ((∀c∈l,i≠b+c)/\(lay nx n s b l p).1.getD i (-1)=p.1.getD i (-1)/\(lay nx n s b l p).2.getD i (-1)=p.2.getD i (-1))
 |[],p,i=>Or.inr ⟨by simp,rfl,rfl⟩
 |c::r,p,i=>by
  rw[lay];rcases lay_at nx n s b r (put p.1 (b+c) s,put p.2 (b+c) (ld nx n s c)) i with ⟨a,h1,h2⟩|⟨h1,h2,h3⟩
  ·exact Or.inl ⟨a,List.mem_cons_of_mem _ h1,h2⟩
  rw[h2,h3,put_at,put_at];by_cases e:i=b+c
  ·left;exact⟨c,List.mem_cons_self,e,if_pos e,if_pos e⟩
  right;refine⟨λa d=>?_,if_neg e,if_neg e⟩;rcases ZR.1 d with rfl|h
  ·exact e
  exact h1 a h
theorem lay_len (nx:Nat->Int) (n s b:Nat):∀(l:List Nat) (p:List Int × List Int),p.1.length=p.2.length->(∀c∈l,c<n) ->
  (lay nx n s b l p).1.length=(lay nx n s b l p).2.length/\p.1.length<=(lay nx n s b l p).1.length/\(lay nx n s b l p).1.length<=max p.1.length (b+n)
 |[],p,h,_=>⟨h,Zg _,by rw[lay];omega⟩
 |c::r,p,h,hl=>by
  rw[lay];have e:=hl c List.mem_cons_self;obtain⟨h1,h2,h3⟩:=lay_len nx n s b r (put p.1 (b+c) s,put p.2 (b+c) (ld nx n s c)) (by simp only[put_len,h]) (λa d=>hl a (List.mem_cons_of_mem _ d));simp only[put_len]at h2 h3;exact⟨h1,by omega,by omega⟩
theorem lay_last (nx:Nat->Int) (n s b:Nat):∀(l:List Nat) (p:List Int × List Int),(p.1.length=0\/p.1.getD (p.1.length-1) (-1)≠-1) ->
  ((lay nx n s b l p).1.length=0\/(lay nx n s b l p).1.getD ((lay nx n s b l p).1.length-1) (-1)≠-1)
 |[],p,h=>h
 |c::r,p,h=>by
  rw[lay];refine lay_last nx n s b r _ (Or.inr ?_);simp only[put_len,put_at];by_cases e:max p.1.length (b+c+1)-1=b+c
  ·rw[if_pos e];omega
  rw[if_neg e];have:max p.1.length (b+c+1)=p.1.length:=by omega
  rw[this];rcases h with h|h
  ·omega
  exact h
structure St where
 ck:List Int
 nt:List Int
 bs:List Int
 df:List Int
def step (nx:Nat->Int) (n:Nat) (S:St) (s:Nat):St:=
 ⟨(lay nx n s (bas S.ck (own nx n s)) (own nx n s) (S.ck,S.nt)).1,(lay nx n s (bas S.ck (own nx n s)) (own nx n s) (S.ck,S.nt)).2,S.bs++[(bas S.ck (own nx n s):Int)],S.df++[df nx n s]⟩
def run (nx:Nat->Int) (n:Nat):Nat->St
 |0=>⟨[],[],[],[]⟩
 |k+1=>step nx n (run nx n k) k
structure Inv (nx:Nat->Int) (n k:Nat) (S:St):Prop where
 l1:S.ck.length=S.nt.length
 l2:S.ck.length<=k*n
 l3:S.bs.length=k
 l4:S.df.length=k
 b3:∀i,i<k->0<=S.bs.getD i 0/\S.bs.getD i 0<=S.ck.length
 b4:∀i,i<k->S.df.getD i 0=df nx n i
 cs:∀j,j<S.ck.length->(S.ck.getD j (-1)=-1/\S.nt.getD j (-1)=-1)\/∃i c:Nat,i<k/\c<n/\S.ck.getD j (-1)=i/\(j:Int)=S.bs.getD i 0+c/\S.nt.getD j (-1)=ld nx n i c
 on:∀i c,i<k->c∈own nx n i->S.ck.getD (S.bs.getD i 0+c).toNat (-1)=i
 la:S.ck.length=0\/S.ck.getD (S.ck.length-1) (-1)≠-1
theorem getD_left (l r:List Int) (i:Nat) (d:Int) (h:i<l.length):(l++r).getD i d=l.getD i d:=by
 rw[Zf,Zf,Zv h]
theorem getD_last (l:List Int) (x d:Int):(l++[x]).getD l.length d=x:=by simp
theorem getD_out (l:List Int) (i:Nat) (d:Int) (h:l.length<=i):l.getD i d=d:=by
 rw[Zf,ZB h];rfl
theorem inv (nx:Nat->Int) (n:Nat):∀k,Inv nx n k (run nx n k)
 |0=>⟨rfl,by simp[run],rfl,rfl,λi h=>by omega,λi h=>by omega,λj h=>by simp[run]at h,λi c h=>by omega,Or.inl rfl⟩
 |k+1=>by
  have I:=inv nx n k;rw[run];generalize run nx n k=S at I;obtain⟨r,u,v⟩:=bas_spec S.ck (own nx n k);unfold step;generalize B:bas S.ck (own nx n k)=b at r u v;have s:=lay_len nx n k b (own nx n k) (S.ck,S.nt) I.l1 (λc g=>own_lt g);have ha:=lay_at nx n k b (own nx n k) (S.ck,S.nt);have hz:=lay_last nx n k b (own nx n k) (S.ck,S.nt) I.la;generalize lay nx n k b (own nx n k) (S.ck,S.nt)=p at s ha hz;obtain⟨g1,g2,w⟩:=s;simp only at g1 g2 w ha hz;have C:=I.l2;have d:∀i,i<k->(S.bs++[(b:Int)]).getD i 0=S.bs.getD i 0:=λi l=>getD_left _ _ _ _ (by rw[I.l3];exact l)
  have a:(S.bs++[(b:Int)]).getD k 0=b:=by have:=getD_last S.bs (b:Int) 0;rwa [I.l3]at this
  refine⟨g1,?_,by simp[I.l3],by simp[I.l4],λi l=>?_,λi l=>?_,λj A=>?_,λi c l g=>?_,hz⟩
  ·simp only;rw[Nat.succ_mul];omega
  ·simp only;by_cases e:i=k
   ·subst e;rw[a];omega
   rw[d i (by omega)];have:=I.b3 i (by omega);omega
  ·simp only;by_cases e:i=k
   ·subst e;have:=getD_last S.df (df nx n i) 0;rwa [I.l4]at this
   rw[getD_left _ _ _ _ (by rw[I.l4];omega)];exact I.b4 i (by omega)
  ·simp only at A ⊢;rcases ha j with ⟨c,h1,h2,h3,f⟩|⟨h1,h2,h3⟩
   ·right;refine⟨k,c,by omega,own_lt h1,h3,?_,f⟩;rw[a];omega
   by_cases o:j<S.ck.length
   ·rcases I.cs j o with ⟨f,m⟩|⟨i,c,f,m,x,y,z⟩
    ·left;exact⟨by rw[h2];exact f,by rw[h3];exact m⟩
    right;refine⟨i,c,by omega,m,by rw[h2];exact x,by rw[d i f];exact y,by rw[h3];exact z⟩
   left;have:=I.l1;exact⟨by rw[h2,getD_out _ _ _ (by omega)],by rw[h3,getD_out _ _ _ (by omega)]⟩
  simp only;by_cases e:i=k
  ·subst e;rw[a];rw[show((b:Int)+(c:Int)).toNat=b+c by omega];rcases ha (b+c)with ⟨q,h1,h2,h3,f⟩|⟨h1,_⟩
   ·exact h3
   exact absurd rfl (h1 c g)
  rw[d i (by omega)];have t:=I.on i c (by omega) g;rcases ha (S.bs.getD i 0+c).toNat with ⟨q,h1,h2,h3,f⟩|⟨h1,h2,_⟩
  ·have:=fr_iff.1 r q h1;rw[<-h2,t]at this;omega
  rw[h2];exact t
end Pk
end
end Go.Proofs.YtoaaklhpmhjhkaaGreat
