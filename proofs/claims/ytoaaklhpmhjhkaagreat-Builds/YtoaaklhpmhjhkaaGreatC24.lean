import Derived.Test.YtoaaklhpmhjhkaaGreatC23
set_option maxRecDepth 100000
set_option maxHeartbeats 4000000
set_option linter.all false
namespace Go.Proofs.YtoaaklhpmhjhkaaGreat
open Go.RowKit
theorem y3j (s:ByteArray) (k:Nat) (c:UInt8) (r:List UInt8) (hd:s.data.toList.drop k=c::r) (h0:Pg.kindOf (bat s k)≠0) (hok:(Pg.readPart (bat s) s.size k (Pg.kindOf (bat s k))).ok=true):
  ∃n:Nat,1<=n/\k+n<=s.size/\(Pg.readPart (bat s) s.size k (Pg.kindOf (bat s k))).n=((k+n:Nat):Int)/\TkOK ⟨(s.data.toList.drop k).take n,Pg.kindOf (bat s k),(Pg.readPart (bat s) s.size k (Pg.kindOf (bat s k))).mo⟩:=by
 have d:bat s (k:Int)=c.toNat:=by rw[q4W hd];rfl
 have aa:=q0T hd;have V:r.length+1=s.size-k:=by
  have:(s.data.toList.drop k).length=s.size-k:=by simp
  rw[hd]at this;simpa using this
 by_cases A:c=91
 ·subst A;have E:Pg.kindOf (bat s k)=1:=by rw[d];rfl
  have g:bat s (k:Int)=91:=d;rw[E]at hok ⊢;have D:Pg.readPart (bat s) s.size k 1=⟨(Pg.readSet (bat s) s.size k).n,(Pg.readSet (bat s) s.size k).ok,(Pg.readSet (bat s) s.size k).f,0,(Pg.readSet (bat s) s.size k).fa⟩:=by
   rw[Pg.readPart,if_pos rfl,Pg.readPlace,if_pos g]
  rw[D]at hok ⊢;rcases q4t s k r 0 0 0 (Or.inl rfl) hd with ⟨n,F,FA,e,J,m,X,_⟩|⟨e,_⟩
  ·refine⟨n-k,by omega,by omega,?_,Or.inl ⟨rfl,Or.inr (Or.inr ⟨r.take (n-k-1),?_,λo L=>?_⟩)⟩⟩
   ·rw[m,show k+(n-k)=n by omega]
   ·show(s.data.toList.drop k).take (n-k)=_;rw[hd,show n-k=(n-k-1)+1 by omega,List.take_succ_cons];rfl
   obtain⟨fa,h⟩:=q6Q X o L;refine⟨fa,F,?_⟩;rw[h,List.length_take,show L+(n-k)=L+(min (n-k-1) r.length+1) by omega]
  rw[e]at hok;cases hok
 by_cases B:c=92
 ·subst B;have E:Pg.kindOf (bat s k)=1:=by rw[d];rfl
  have g:bat s (k:Int)=92:=d;rw[E]at hok ⊢;have D:Pg.readPart (bat s) s.size k 1=⟨(Pg.readEscape (bat s) k).n,(Pg.readEscape (bat s) k).ok,Pg.withF (λ_=>false) (Pg.readEscape (bat s) k).v (Pg.readEscape (bat s) k).v,0,-1⟩:=by
   rw[Pg.readPart,if_pos rfl,Pg.readPlace,if_neg (by rw[g];decide),if_neg (by rw[g];decide),if_pos g]
  rw[D]at hok ⊢;rcases q3v s k r hd with ⟨n,v,e,J,m,_⟩|⟨n,e,_⟩
  ·refine⟨n+1,by omega,by omega,by rw[e],Or.inl ⟨rfl,Or.inr (Or.inl ⟨r.take n,v,?_,λo=>?_⟩)⟩⟩
   ·show(s.data.toList.drop k).take (n+1)=_;rw[hd,List.take_succ_cons]
   have:=q2w J o;rw[List.take_succ_cons,List.cons_append]at this;rw[this,List.length_take,Nat.min_eq_left m]
  rw[e]at hok;cases hok
 by_cases i:c=123
 ·subst i;have E:Pg.kindOf (bat s k)=8:=by rw[d];rfl
  rw[E]at hok ⊢;have D:Pg.readPart (bat s) s.size k 8=⟨(Pg.readCount (bat s) k).n,(Pg.readCount (bat s) k).ok,λ_=>false,(Pg.readCount (bat s) k).v,Pg.countFalls (bat s) k⟩:=rfl;rw[D]at hok ⊢;rcases q4Q s k r 0 0 hd with ⟨n,mo,le,e,_,m,_⟩|⟨e,_⟩
  ·rw[e];have Z:IsCountW ((123::r).take n) mo:=by
    rcases m with ⟨x,o,rfl,rfl,T,U,rfl,_⟩|⟨x,z,o,rfl,rfl,T,U,z1,z2,rfl,_⟩
    ·exact Or.inl ⟨x,rfl,T,U,rfl⟩
    exact Or.inr ⟨x,z,rfl,T,U,z1,z2,rfl⟩
   have hn:1<=n/\n<=r.length+1:=by
    rcases m with ⟨x,o,rfl,rfl,_⟩|⟨x,z,o,rfl,rfl,_⟩<;>(simp)
   refine⟨n,hn.1,by omega,rfl,?_⟩;rw[hd];exact Or.inr (Or.inr (Or.inr (Or.inr (Or.inr (Or.inr (Or.inr ⟨rfl,Z⟩))))))
  rw[e]at hok;cases hok
 have a:∀kd:Int,kd≠1->kd≠8->Pg.readPart (bat s) s.size k kd=⟨(k:Int)+1,true,λ_=>false,0,-1⟩:=λkd e Y=>by rw[Pg.readPart,if_neg e,if_neg Y]
 have G:(s.data.toList.drop k).take 1=[c]:=by rw[hd];rfl
 have b:∀kd:Int,Pg.kindOf (bat s k)=kd->(Pg.readPart (bat s) s.size k kd).n=(k:Int)+1->TkOK ⟨[c],kd,(Pg.readPart (bat s) s.size k kd).mo⟩ ->
   ∃n:Nat,1<=n/\k+n<=s.size/\(Pg.readPart (bat s) s.size k (Pg.kindOf (bat s k))).n=((k+n:Nat):Int)/\TkOK ⟨(s.data.toList.drop k).take n,Pg.kindOf (bat s k),(Pg.readPart (bat s) s.size k (Pg.kindOf (bat s k))).mo⟩:=by
  intro kd e J m;rw[e];exact⟨1,by omega,by omega,by rw[J];rfl,by rw[G];exact m⟩
 by_cases p:c=40
 ·subst p;exact b 2 (by rw[d];rfl) (by rw[a 2 (by decide) (by decide)]) (Or.inr (Or.inl ⟨rfl,rfl⟩))
 by_cases q:c=41
 ·subst q;exact b 3 (by rw[d];rfl) (by rw[a 3 (by decide) (by decide)]) (Or.inr (Or.inr (Or.inl ⟨rfl,rfl⟩)))
 by_cases j:c=124
 ·subst j;exact b 4 (by rw[d];rfl) (by rw[a 4 (by decide) (by decide)]) (Or.inr (Or.inr (Or.inr (Or.inl ⟨rfl,rfl⟩))))
 by_cases t:c=42
 ·subst t;exact b 5 (by rw[d];rfl) (by rw[a 5 (by decide) (by decide)]) (Or.inr (Or.inr (Or.inr (Or.inr (Or.inl ⟨rfl,rfl⟩)))))
 by_cases u:c=43
 ·subst u;exact b 6 (by rw[d];rfl) (by rw[a 6 (by decide) (by decide)]) (Or.inr (Or.inr (Or.inr (Or.inr (Or.inr (Or.inl ⟨rfl,rfl⟩))))))
 by_cases y:c=63
 ·subst y;exact b 7 (by rw[d];rfl) (by rw[a 7 (by decide) (by decide)]) (Or.inr (Or.inr (Or.inr (Or.inr (Or.inr (Or.inr (Or.inl ⟨rfl,rfl⟩)))))))
 by_cases C:c=93
 ·subst C;exact absurd (by rw[d];rfl) h0
 by_cases l:c=125
 ·subst l;exact absurd (by rw[d];rfl) h0
 have R:(c.toNat:Int)≠91:=q0G A;have S:(c.toNat:Int)≠92:=q0G B;have H:(c.toNat:Int)≠123:=q0G i;have M:(c.toNat:Int)≠40:=q0G p;have N:(c.toNat:Int)≠41:=q0G q;have I:(c.toNat:Int)≠124:=q0G j;have O:(c.toNat:Int)≠42:=q0G t;have P:(c.toNat:Int)≠43:=q0G u;have Q:(c.toNat:Int)≠63:=q0G y;have ab:(c.toNat:Int)≠93:=q0G C;have W:(c.toNat:Int)≠125:=q0G l;have K:Pg.kindOf (bat s k)=1:=by
  rw[d];unfold Pg.kindOf;rw[if_neg (by omega),if_neg M,if_neg N,if_neg I,if_neg O,if_neg P,if_neg Q,if_neg H]
 refine b 1 K ?_ (Or.inl ⟨rfl,Or.inl ⟨c,rfl,?_⟩⟩)
 ·rw[Pg.readPart,if_pos rfl,Pg.readPlace,d,if_neg R];by_cases w:(c.toNat:Int)=46
  ·rw[if_pos w]
  rw[if_neg w,if_neg S]
 unfold Special;intro h;rcases h with h|h|h|h|h|h|h|h|h|h|h<;>contradiction
theorem y1v (s:ByteArray):∀(u k:Nat) (bf op:Int) (acc:List Pg.Pt),s.size<u+k->k<=s.size->(Pg.partsFrom (bat s) s.size u bf op k acc).ok=true ->
  ∃ps ts,(Pg.partsFrom (bat s) s.size u bf op k acc).ps=acc++ps/\txt ts=s.data.toList.drop k/\Val ts bf op/\ps.map (λp=>(p.kd,p.mo))=ts.map (λt=>(t.kd,t.mo)):=by
 intro u
 induction u with
 |zero=>intro k bf op acc w x;omega
 |succ u ih=>
  intro k bf op acc z y a;rcases hd:s.data.toList.drop k with _|⟨c,r⟩
  ·have l:k=s.size:=by
    have:s.size<=k:=by simpa using hd
    omega
   have d:¬(k:Int)<(s.size:Int):=by omega
   rw[Pg.partsFrom,if_neg d]at a ⊢;exact⟨[],[],by simp,rfl,by simpa[Val]using a,rfl⟩
  have m:=q0T hd;have b:(k:Int)<(s.size:Int):=by omega
  rw[Pg.partsFrom,if_pos b]at a ⊢;cases hc:Pg.canStand (Pg.kindOf (bat s k)) bf op
  ·rw[hc]at a;cases a
  rw[hc]at a;simp only[if_true]at a ⊢;cases hp:(Pg.readPart (bat s) s.size k (Pg.kindOf (bat s k))).ok
  ·rw[hp]at a;cases a
  rw[hp]at a;simp only[if_true]at a ⊢;have j:Pg.kindOf (bat s k)≠0:=by
   intro e;rw[e]at hc;simp[Pg.canStand]at hc
  obtain⟨n,A,o,q,v⟩:=y3j s k c r hd j hp;rw[q]at a ⊢;obtain⟨ps,ts,f,g,h,i⟩:=ih (k+n) _ _ _ (by omega) o a;refine⟨_::ps,⟨(s.data.toList.drop k).take n,Pg.kindOf (bat s k),(Pg.readPart (bat s) s.size k (Pg.kindOf (bat s k))).mo⟩::ts,by rw[f,List.append_assoc];rfl,?_,⟨v,hc,h⟩,?_⟩
  ·rw[q0P,g,<-hd,<-q0n,List.take_append_drop]
  simp only[List.map_cons,i]
theorem q3P:∀(ps qs:List Pg.Pt),ps.map (λp=>(p.kd,p.mo))=qs.map (λp=>(p.kd,p.mo))->∀c,Pg.cRun ps c=Pg.cRun qs c:=by
 intro ps
 induction ps with
 |nil=>
  intro qs h c;rcases qs with _|⟨q,qs⟩
  ·rfl
  simp at h
 |cons p ps ih=>
  intro qs h c;rcases qs with _|⟨q,qs⟩
  ·simp at h
  simp only[List.map_cons,List.cons.injEq,Prod.mk.injEq]at h;obtain⟨⟨a,b⟩,d⟩:=h;have hs:Pg.cStep c p=Pg.cStep c q:=by unfold Pg.cStep;rw[a,b]
  simp only[Pg.cRun];rw[hs];exact ih qs d _
theorem q7c (s:ByteArray) (h:(Pg.readParts (bat s) s.size).ok=true):∃V g,Rf.cnt g true s.data.toList=some V/\0<=V/\Pg.countPlaces (Pg.readParts (bat s) s.size).ps=Pg.capped V:=by
 unfold Pg.readParts at h ⊢;obtain⟨ps,ts,o,p,d,q⟩:=y1v s ((s.size:Int).toNat+1) 0 0 0 [] (by omega) (by omega) h;have i:∀t r,ts=t::r->¬isSuf t:=by
  intro t r e hs;rw[e]at d;have:=d.2.1;unfold isSuf at hs;simp[Pg.canStand,Pg.endsPiece,Pg.isSuffix]at this;rcases hs with h|h|h|h<;>simp[h]at this
 obtain⟨f,inn,rest,V,j,k,n⟩:=parse ts.length ts 0 0 (Nat.le_refl _) (Int.le_refl _) d i;have a:rest=[]:=by
  rcases n with ⟨h,_⟩|⟨b,r,_,_,_,h,_⟩
  ·exact h
  omega
 rw[a,List.append_nil]at j;subst j;obtain⟨G,u⟩:=counts f true ts V k;obtain⟨w,_,v⟩:=machine f true ts V k;obtain⟨x,y,l,_,_,m⟩:=v rfl ⟨0,0,[]⟩ (by simp) (by simp);refine⟨V,G,?_,w,?_⟩
 ·have:=u 0;rw[p,List.drop_zero,Nat.zero_add]at this;exact this
 have c:(Pg.partsFrom (bat s) (s.size:Int) ((s.size:Int).toNat+1) 0 0 0 []).ps=ps:=by
  have:=o;rw[List.nil_append]at this;exact this
 rw[c,Pg.countPlaces,q3P ps (ts.map ptOf) (by rw[q,List.map_map];rfl),l];simp only;rw[m];simp
theorem q0N (s:ByteArray):Rf.WrongIs s.data.toList (Pg.wrong (bat s) s.size).1 (Pg.wrong (bat s) s.size).2/\((Pg.wrong (bat s) s.size).1=0->(Pg.wrong (bat s) s.size).2=0/\s.size<=40/\(Pg.readParts (bat s) s.size).ok=true):=by
 have K:s.data.toList.length=s.size:=by simp
 by_cases w:40<s.size
 ·have:Pg.wrong (bat s) s.size=(2,0):=by rw[Pg.wrong,if_pos (by omega)]
  rw[this];exact⟨Or.inl ⟨by omega,rfl,rfl⟩,λh=>by simp at h⟩
 have B:Pg.wrong (bat s) s.size=if (Pg.readParts (bat s) s.size).ok then
  (if Pg.tooDeep (Pg.readParts (bat s) s.size).ps 0=-1 then
   (if Pg.falling (Pg.readParts (bat s) s.size).ps=-1 then
    (if Pg.matchless (Pg.readParts (bat s) s.size).ps=-1 then (0,0) else (6,Pg.matchless (Pg.readParts (bat s) s.size).ps))
   else (5,Pg.falling (Pg.readParts (bat s) s.size).ps))
  else (4,Pg.tooDeep (Pg.readParts (bat s) s.size).ps 0))
  else (3,(Pg.readParts (bat s) s.size).n):=by rw[Pg.wrong,if_neg (by omega)]
 rw[B];have k:=q4A s ((s.size:Int).toNat+1) 0 0 0 0 [] (by omega) (by omega) (by omega);have l:modeOf 0=0:=rfl;rw[l,List.drop_zero]at k;have z:Pg.partsFrom (bat s) s.size ((s.size:Int).toNat+1) 0 0 ((0:Nat):Int) []=Pg.readParts (bat s) s.size:=rfl;rw[z]at k;rcases k with ⟨f,d,g⟩|⟨ps,f,d,g,v,⟨J,m⟩,⟨I,x⟩,y⟩
 ·rw[f];simp only[Bool.false_eq_true,if_false];have b:Rf.form s.data.toList=(Pg.readParts (bat s) s.size).n:=d;exact⟨Or.inr ⟨by omega,Or.inl ⟨by rw[b];exact g,rfl,b.symm⟩⟩,λh=>by simp at h⟩
 rw[List.nil_append]at d;rw[f,d];simp only[if_true];have b:Rf.form s.data.toList<0:=by
  have:Rf.form s.data.toList=-1:=g;omega
 have a:Rf.deep s.data.toList=Pg.tooDeep ps 0:=v (by omega);have j:∀(ps:List Pg.Pt) (op:Int),(∀p∈ps,0<=p.pl/\-1<=p.fa)->(Pg.tooDeep ps op=-1\/0<=Pg.tooDeep ps op)/\(Pg.falling ps=-1\/0<=Pg.falling ps)/\(Pg.matchless ps=-1\/0<=Pg.matchless ps):=by
  intro ps
  induction ps with
  |nil=>intro op _;exact⟨Or.inl rfl,Or.inl rfl,Or.inl rfl⟩
  |cons p ps ih=>
   intro op t;obtain⟨C,D,E⟩:=ih (Pg.opens p.kd op) (λq A=>t q (by simp[A]));obtain⟨u,L⟩:=t p (by simp);refine⟨?_,?_,?_⟩
   ·rw[Pg.tooDeep];split
    ·exact Or.inr u
    exact C
   ·rw[Pg.falling];split
    ·exact D
    exact Or.inr (by omega)
   rw[Pg.matchless];split
   ·exact Or.inr u
   exact E
 obtain⟨F,G,H⟩:=j ps 0 y;by_cases c:Pg.tooDeep ps 0=-1
 ·rw[if_pos c];by_cases e:Pg.falling ps=-1
  ·rw[if_pos e];have r:=m 0;have o:=x 0;by_cases i:Pg.matchless ps=-1
   ·rw[if_pos i];exact⟨Or.inr ⟨by omega,Or.inr ⟨b,Or.inr ⟨by rw[a,c];decide,_,_,r,Or.inr ⟨by rw[e];decide,_,_,o,Or.inr ⟨by rw[i];decide,rfl,rfl⟩⟩⟩⟩⟩,λ_=>⟨rfl,by omega,trivial⟩⟩
   rw[if_neg i];exact⟨Or.inr ⟨by omega,Or.inr ⟨b,Or.inr ⟨by rw[a,c];decide,_,_,r,Or.inr ⟨by rw[e];decide,_,_,o,Or.inl ⟨by omega,rfl,rfl⟩⟩⟩⟩⟩,λh=>by simp at h⟩
  rw[if_neg e];exact⟨Or.inr ⟨by omega,Or.inr ⟨b,Or.inr ⟨by rw[a,c];decide,_,_,m 0,Or.inl ⟨by omega,rfl,rfl⟩⟩⟩⟩,λh=>by simp at h⟩
 rw[if_neg c];exact⟨Or.inr ⟨by omega,Or.inr ⟨b,Or.inl ⟨by omega,rfl,a.symm⟩⟩⟩,λh=>by simp at h⟩
theorem q5P {u:Nat->Int}:∀n,(∀i,i<n->0<=u i)->0<=sumTo u n
 |0,_=>Int.le_refl _
 |n+1,h=>by simp only[sumTo];have:=q5P n (λi a=>h i (by omega));have:=h n (by omega);omega
theorem q7G {u v:Nat->Int}:∀n,(∀i,i<n->0<=v i/\u i=Pg.capped (v i))->(96<sumTo u n<->96<sumTo v n)/\(¬96<sumTo v n->sumTo u n=sumTo v n)
 |0,_=>⟨Iff.rfl,λ_=>rfl⟩
 |n+1,h=>by
  obtain⟨b,c⟩:=q7G n (λi a=>h i (by omega));obtain⟨v0,d⟩:=h n (by omega);have e:=q5P n (λi a=>(h i (by omega)).1);have f:0<=sumTo u n:=q5P n (λi a=>by rw[(h i (by omega)).2];exact q2i (h i (by omega)).1);simp only[sumTo];rw[d,q1P];split
  ·constructor
   ·omega
   intro;omega
  by_cases hs:96<sumTo v n
  ·have:=b.2 hs;constructor
   ·omega
   intro;omega
  have:=c hs;constructor
  ·omega
  intro;omega
def PlaceSet (w:List UInt8) (f:Nat->Bool):Prop:=
 (w=[46]/\∀b,b<256->f b=(b != 10)) \/
 (∃c v r0,w=c::r0/\c≠46/\c≠91/\c≠40/\(∀r,Rf.one (w++r)=some (v,w.length))/\∀b,b<256->f b=decide ((b:Int)=v)) \/
 (∃e,w=91::e/\∀r i,∃fa,Rf.set (e++r) i=some (i+(e.length+1),fa,f))
def LeW (w:List UInt8) (le:Int):Prop:=∃(x:UInt8) (r:List UInt8),w=123::x::r/\48<=(x.toNat:Int)/\(x.toNat:Int)<=57/\le=(x.toNat:Int)-48
theorem q4n {v:Int} (b:Nat):Pg.withF (λ_=>false) v v b=decide ((b:Int)=v):=by
 unfold Pg.withF;by_cases h:(b:Int)=v
 ·simp[h]
 have:¬(v<=(b:Int)/\(b:Int)<=v):=by omega
 simp only[Bool.false_or,h,decide_false];rcases Int.lt_or_le (b:Int) v with a|a
 ·simp[show ¬v<=(b:Int) by omega]
 simp[show ¬(b:Int)<=v by omega]
theorem y0j (s:ByteArray) (k n:Nat) (c:UInt8) (r:List UInt8) (hd:s.data.toList.drop k=c::r) (h1:Pg.kindOf (bat s k)=1) (hok:(Pg.readPart (bat s) s.size k 1).ok=true) (hn:(Pg.readPart (bat s) s.size k 1).n=((k+n:Nat):Int)) (_hn2:k+n<=s.size):
  PlaceSet ((s.data.toList.drop k).take n) (Pg.readPart (bat s) s.size k 1).f:=by
 have d:bat s (k:Int)=c.toNat:=by rw[q4W hd];rfl
 by_cases i:c=91
 ·subst i;have a:bat s (k:Int)=91:=d;have l:Pg.readPart (bat s) s.size k 1=⟨(Pg.readSet (bat s) s.size k).n,(Pg.readSet (bat s) s.size k).ok,(Pg.readSet (bat s) s.size k).f,0,(Pg.readSet (bat s) s.size k).fa⟩:=by
   rw[Pg.readPart,if_pos rfl,Pg.readPlace,if_pos a]
  rw[l]at hok hn ⊢;rcases q4t s k r 0 0 0 (Or.inl rfl) hd with ⟨m,F,C,o,D,t,A,_⟩|⟨o,_⟩
  ·rw[t]at hn ⊢;simp only at hn ⊢;have p:m=k+n:=by omega
   refine Or.inr (Or.inr ⟨r.take (n-1),?_,λq u=>?_⟩)
   ·rw[hd,show n=(n-1)+1 by omega,List.take_succ_cons];rfl
   obtain⟨fa,h⟩:=q6Q A q u;refine⟨fa,?_⟩;have B:r.length+1=s.size-k:=by
    have:(s.data.toList.drop k).length=s.size-k:=by simp
    rw[hd]at this;simpa using this
   rw[show m-k-1=n-1 by omega]at h;rw[h,List.length_take,show u+(m-k)=u+(min (n-1) r.length+1) by omega]
  rw[o]at hok;cases hok
 by_cases j:c=92
 ·subst j;have a:bat s (k:Int)=92:=d;have l:Pg.readPart (bat s) s.size k 1=⟨(Pg.readEscape (bat s) k).n,(Pg.readEscape (bat s) k).ok,Pg.withF (λ_=>false) (Pg.readEscape (bat s) k).v (Pg.readEscape (bat s) k).v,0,-1⟩:=by
   rw[Pg.readPart,if_pos rfl,Pg.readPlace,if_neg (by rw[a];decide),if_neg (by rw[a];decide),if_pos a]
  rw[l]at hok hn ⊢;rcases q3v s k r hd with ⟨m,v,o,t,A,_⟩|⟨m,o,_⟩
  ·rw[o]at hn ⊢;simp only at hn ⊢;have p:n=m+1:=by omega
   subst p;refine Or.inr (Or.inl ⟨92,v,r.take m,by rw[hd,List.take_succ_cons],by decide,by decide,by decide,λq=>?_,λb _=>q4n b⟩);rw[hd];have:=q2w t q;rw[this];congr 2;simp;omega
  rw[o]at hok;cases hok
 by_cases g:c=46
 ·subst g;have a:bat s (k:Int)=46:=d;have l:Pg.readPart (bat s) s.size k 1=⟨(k:Int)+1,true,λk=>!(Pg.withF (λ_=>false) 10 10 k),0,-1⟩:=by
   rw[Pg.readPart,if_pos rfl,Pg.readPlace,if_neg (by rw[a];decide),if_pos a]
  rw[l]at hn ⊢;simp only at hn ⊢;have p:n=1:=by omega
  subst p;refine Or.inl ⟨by rw[hd];rfl,λb _=>?_⟩;show(!Pg.withF (λ_=>false) 10 10 b)=(b != 10);rw[q4n];by_cases h:b=10
  ·subst h;rfl
  have:¬(b:Int)=10:=by omega
  simp[h,this]
 have y:=q0G i;have z:=q0G j;have x:=q0G g;have l:Pg.readPart (bat s) s.size k 1=⟨(k:Int)+1,true,Pg.withF (λ_=>false) (bat s k) (bat s k),0,-1⟩:=by
  rw[Pg.readPart,if_pos rfl,Pg.readPlace,if_neg (by rw[d];exact y),if_neg (by rw[d];exact x),if_neg (by rw[d];exact z)]
 rw[l]at hn ⊢;simp only at hn ⊢;have p:n=1:=by omega
 subst p;have w:c≠40:=λe=>by
  subst e;rw[d]at h1;exact absurd h1 (by decide)
 refine Or.inr (Or.inl ⟨c,c.toNat,[],by rw[hd];rfl,g,i,w,λq=>?_,λb _=>?_⟩)
 ·rw[hd];simp[Rf.one,j]
 rw[d];exact q4n b
theorem y1U (s:ByteArray) (k n:Nat) (_c:UInt8) (_r:List UInt8) (hw:IsCountW ((s.data.toList.drop k).take n) (Pg.readPart (bat s) s.size k 8).mo):LeW ((s.data.toList.drop k).take n) (Pg.digitValue (bat s ((k:Int)+1))):=by
 have d:∀(x:UInt8) (f:List UInt8),(s.data.toList.drop k).take n=123::x::f->48<=(x.toNat:Int)->(x.toNat:Int)<=57->LeW ((s.data.toList.drop k).take n) (Pg.digitValue (bat s ((k:Int)+1))):=λx f c a b=>by
  refine⟨x,f,c,a,b,?_⟩;have g:(s.data.toList.drop k)[1]?=some x:=by
   have e:((s.data.toList.drop k).take n)[1]?=some x:=by rw[c];rfl
   rw[List.getElem?_take]at e;split at e
   ·exact e
   cases e
  rw[y0X rfl,at_,g];simp only;rw[Pg.digitValue,if_pos ⟨a,b⟩]
 rcases hw with ⟨x,c,a,b,_⟩|⟨x,z,c,a,b,_⟩
 ·exact d x _ c a b
 exact d x _ c a b
structure Tq where
 t:Tk
 f:Nat->Bool
 le:Int
def TqOK (q:Tq):Prop:=TkOK q.t/\(q.t.kd=1->PlaceSet q.t.w q.f)/\(q.t.kd=8->LeW q.t.w q.le)
def SameP (s:ByteArray) (p:Pg.Pt) (q:Tq):Prop:=p.kd=q.t.kd/\p.mo=q.t.mo/\p.f=q.f/\(p.kd=8->Pg.digitValue (bat s (p.pl+1))=q.le)
inductive Both {α β:Type} (R:α->β->Prop):List α->List β->Prop
 |nil:Both R [] []
 |cons {a:α}{b:β}{l:List α}{m:List β} (h:R a b) (t:Both R l m):Both R (a::l) (b::m)
theorem y1u (s:ByteArray):∀(u k:Nat) (bf op:Int) (acc:List Pg.Pt),s.size<u+k->k<=s.size->(Pg.partsFrom (bat s) s.size u bf op k acc).ok=true ->
  ∃ps qs,(Pg.partsFrom (bat s) s.size u bf op k acc).ps=acc++ps/\txt (qs.map Tq.t)=s.data.toList.drop k/\Val (qs.map Tq.t) bf op/\(∀q∈qs,TqOK q)/\Both (SameP s) ps qs:=by
 intro u
 induction u with
 |zero=>intro k bf op acc g E;omega
 |succ u ih=>
  intro k bf op acc G F a;rcases hd:s.data.toList.drop k with _|⟨c,r⟩
  ·have B:k=s.size:=by
    have:s.size<=k:=by simpa using hd
    omega
   have j:¬(k:Int)<(s.size:Int):=by omega
   rw[Pg.partsFrom,if_neg j]at a ⊢;exact⟨[],[],by simp,rfl,by simpa[Val]using a,by simp,Both.nil⟩
  have C:=q0T hd;have b:(k:Int)<(s.size:Int):=by omega
  rw[Pg.partsFrom,if_pos b]at a ⊢;cases hc:Pg.canStand (Pg.kindOf (bat s k)) bf op
  ·rw[hc]at a;cases a
  rw[hc]at a;simp only[if_true]at a ⊢;cases hp:(Pg.readPart (bat s) s.size k (Pg.kindOf (bat s k))).ok
  ·rw[hp]at a;cases a
  rw[hp]at a;simp only[if_true]at a ⊢;have A:Pg.kindOf (bat s k)≠0:=by
   intro e;rw[e]at hc;simp[Pg.canStand]at hc
  obtain⟨n,H,o,p,m⟩:=y3j s k c r hd A hp;have d:=p;rw[p]at a ⊢;obtain⟨ps,qs,v,w,x,y,z⟩:=ih (k+n) _ _ _ (by omega) o a;refine⟨_::ps,⟨⟨(s.data.toList.drop k).take n,Pg.kindOf (bat s k),(Pg.readPart (bat s) s.size k (Pg.kindOf (bat s k))).mo⟩,(Pg.readPart (bat s) s.size k (Pg.kindOf (bat s k))).f,Pg.digitValue (bat s ((k:Int)+1))⟩::qs,by rw[v,List.append_assoc];rfl,?_,⟨m,hc,x⟩,?_,Both.cons ⟨rfl,rfl,rfl,λ_=>rfl⟩ z⟩
  ·rw[List.map_cons,q0P,w,<-hd,<-q0n,List.take_append_drop]
  intro q D;rcases List.mem_cons.1 D with rfl|h
  ·refine⟨m,λg=>?_,λi=>?_⟩
   ·simp only at g ⊢;rw[g]at hp d ⊢;exact y0j s k n c r hd g hp d o
   simp only at i ⊢;have l:=(q8b m i).2;simp only at l;rw[i]at l;exact y1U s k n c r l
  exact y q h
def Pp:Nat->Nat->List Tq->Rx->Prop
 |0,_,_,_=>False
 |f+1,0,ts,e=>(∃q,ts=[q]/\TqOK q/\q.t.kd=1/\e=.lit q.f) \/
   (∃a inn b e0,ts=a::(inn++[b])/\TqOK a/\a.t.kd=2/\TqOK b/\b.t.kd=3/\Pp f 2 inn e0/\e=e0.nz) \/
   (∃q t e0,ts=q++[t]/\Pp f 0 q e0/\TqOK t/\isSuf t.t/\e=(Rx.suf t.t.kd t.le.toNat t.t.mo.toNat e0).nz)
 |f+1,1,ts,e=>∃L:List (List Tq × Rx),ts=(L.map (·.1)).flatten/\(∀x∈L,Pp f 0 x.1 x.2)/\e=Rx.rowOf (L.map (·.2))
 |f+1,_,ts,e=>Pp f 1 ts e\/∃r b q e1 e2,ts=r++b::q/\TqOK b/\b.t.kd=4/\Pp f 1 r e1/\Pp f 2 q e2/\e=.alt e1 e2
theorem q4Y:∀(f k:Nat) (ts:List Tq) (e:Rx),Pp f k ts e->Pp (f+1) k ts e:=by
 intro f
 induction f with
 |zero=>intro k ts e h;exact absurd h (by simp[Pp])
 |succ f ih=>
  intro k ts e h;rcases k with _|_|k
  ·unfold Pp at h ⊢;rcases h with h|⟨a,inn,b,e0,c,d,g,i,j,l,n⟩|⟨q,t,e0,c,d,g⟩
   ·exact Or.inl h
   ·exact Or.inr (Or.inl ⟨a,inn,b,e0,c,d,g,i,j,ih _ _ _ l,n⟩)
   exact Or.inr (Or.inr ⟨q,t,e0,c,ih _ _ _ d,g⟩)
  ·unfold Pp at h ⊢;obtain⟨L,c,d,g⟩:=h;exact⟨L,c,λx o=>ih _ _ _ (d x o),g⟩
  unfold Pp at h ⊢;rcases h with h|⟨r,b,q,m,e2,c,d,g,i,j,l⟩
  ·exact Or.inl (ih _ _ _ h)
  exact Or.inr ⟨r,b,q,m,e2,c,d,g,ih _ _ _ i,ih _ _ _ j,l⟩
variable {ts : List Tq}{f g k n : Nat}{e : Rx}
theorem q8y (h:Pp f k ts e) (hfg:f<=g):Pp g k ts e:=by
 induction g with
 |zero=>
   have:f=0:=by omega
   subst this;exact h
 |succ g ih=>
  by_cases e:f=g+1
  ·subst e;exact h
  exact q4Y _ _ _ _ (ih (by omega))
variable {e2 : Rx}
theorem y2f {p r:List Tq}{e1:Rx} (h1:Pp f 0 p e1) (h2:Pp f 2 r e2):∃e,Pp (f+2) 2 (p++r) e:=by
 have row:∀(f:Nat) (r:List Tq) (e2:Rx),Pp f 0 p e1->Pp f 1 r e2->∃e,Pp (f+1) 1 (p++r) e:=λf r e2 h1 h2=>by
  rcases f with _|f
  ·exact absurd h1 (by simp[Pp])
  obtain⟨L,j,k,_⟩:=h2;refine⟨_,(p,e1)::L,by rw[j];simp,λx c=>?_,rfl⟩;rcases List.mem_cons.1 c with rfl|c
  ·exact h1
  exact q4Y _ _ _ _ (k x c)
 rcases f with _|f
 ·exact absurd h1 (by simp[Pp])
 rcases h2 with h|⟨d,b,q,g,i,l,m,n,o,s,_⟩
 ·obtain⟨e,a⟩:=row (f+1) r e2 h1 (q4Y _ _ _ _ h);exact⟨e,Or.inl a⟩
 obtain⟨e,a⟩:=row (f+1) d g h1 (q4Y _ _ _ _ o);exact⟨_,Or.inr ⟨p++d,b,q,e,i,by rw[l];simp,m,n,a,q8y s (by omega),rfl⟩⟩
theorem q2x {a b:List Tk} (h:ts.map Tq.t=a++b):∃x y,ts=x++y/\x.map Tq.t=a/\y.map Tq.t=b:=by
 refine⟨ts.take a.length,ts.drop a.length,(List.take_append_drop _ _).symm,?_,?_⟩
 ·rw[List.map_take,h,List.take_left'];rfl
 rw[List.map_drop,h,List.drop_left'];rfl
theorem y2e:∀(f:Nat) (g:Bool) (ts:List Tq) (V:Int),(∀q∈ts,TqOK q)->Is f g (ts.map Tq.t) V->∃F e,Pp F (if g then 2 else 0) ts e:=by
 intro f
 induction f with
 |zero=>intro g ts V _ h;exact absurd h (by simp[Is])
 |succ f ih=>
  intro g ts V j h;cases g
  ·unfold Is at h;rcases h with ⟨t,d,m,l,_⟩|⟨a,inn,b,d,m,l,s,H,I⟩|⟨q,t,A,d,m,l,s,_⟩
   ·rcases ts with _|⟨q,_|⟨Q,ts⟩⟩
    ·simp at d
    ·simp at d;exact⟨1,.lit q.f,Or.inl ⟨q,rfl,j q (by simp),by rw[d];exact l,rfl⟩⟩
    simp at d
   ·obtain⟨x,y,c,e2,i⟩:=q2x (a:=[a]) (b:=inn++[b]) (by rw[d];rfl);obtain⟨E,L,u,G,o⟩:=q2x i;rcases x with _|⟨x,_|⟨K,xs⟩⟩
    ·simp at e2
    rotate_left
    ·simp at e2
    rcases L with _|⟨z,_|⟨M,N⟩⟩
    ·simp at o
    rotate_left
    ·simp at o
    simp at e2 o;obtain⟨F,e,n⟩:=ih true E V (λq k=>j q (by rw[c,u];simp[k])) (by rw[G];exact I);exact⟨F+1,e.nz,Or.inr (Or.inl ⟨x,E,z,e,by rw[c,u];rfl,j x (by rw[c];simp),by rw[e2];exact l,j z (by rw[c,u];simp),by rw[o];exact H,n,rfl⟩)⟩
   obtain⟨x,y,c,e2,i⟩:=q2x d;rcases y with _|⟨z,_|⟨M,N⟩⟩
   ·simp at i
   rotate_left
   ·simp at i
   simp at i;obtain⟨F,e,n⟩:=ih false x A (λq k=>j q (by rw[c];simp[k])) (by rw[e2];exact m);exact⟨F+1,_,Or.inr (Or.inr ⟨x,z,e,c,n,j z (by rw[c];simp),by rw[i];exact s,rfl⟩)⟩
  unfold Is at h;rcases h with ⟨d,_⟩|⟨t,r,d,m,l,s⟩|⟨p,r,A,B,d,m,l,_,_⟩
  ·have:ts=[]:=by simpa using d
   subst this;exact⟨2,Rx.rowOf [],Or.inl ⟨[],rfl,by simp,rfl⟩⟩
  ·obtain⟨x,y,c,e2,i⟩:=q2x (a:=[t]) (b:=r) (by rw[d];rfl);rcases x with _|⟨x,_|⟨K,xs⟩⟩
   ·simp at e2
   rotate_left
   ·simp at e2
   simp at e2;obtain⟨F,e,n⟩:=ih true y V (λq k=>j q (by rw[c];simp[k])) (by rw[i];exact s);exact⟨F+2,_,Or.inr ⟨[],x,y,Rx.rowOf [],e,by rw[c];rfl,j x (by rw[c];simp),by rw[e2];exact l,⟨[],rfl,by simp,rfl⟩,q4Y _ _ _ _ n,rfl⟩⟩
  obtain⟨x,y,c,e2,i⟩:=q2x d;obtain⟨C,O,v⟩:=ih false x A (λq k=>j q (by rw[c];simp[k])) (by rw[e2];exact m);obtain⟨D,P,w⟩:=ih true y B (λq k=>j q (by rw[c];simp[k])) (by rw[i];exact l);obtain⟨e,J⟩:=y2f (q8y v (Nat.le_max_left C D)) (q8y w (Nat.le_max_right C D));exact⟨_,e,by rw[c];exact J⟩
theorem q9V (s:ByteArray) (h:(Pg.readParts (bat s) s.size).ok=true):∃qs f e,txt (qs.map Tq.t)=s.data.toList/\(∀q∈qs,TqOK q)/\Both (SameP s) (Pg.readParts (bat s) s.size).ps qs/\Pp f 2 qs e:=by
 unfold Pg.readParts at h ⊢;obtain⟨ps,qs,m,n,d,j,o⟩:=y1u s ((s.size:Int).toNat+1) 0 0 0 [] (by omega) (by omega) h;have g:∀t r,qs.map Tq.t=t::r->¬isSuf t:=by
  intro t r e hs;rw[e]at d;have:=d.2.1;unfold isSuf at hs;simp[Pg.canStand,Pg.endsPiece,Pg.isSuffix]at this;rcases hs with h|h|h|h<;>simp[h]at this
 obtain⟨f,inn,rest,V,i,k,l⟩:=parse (qs.map Tq.t).length (qs.map Tq.t) 0 0 (Nat.le_refl _) (Int.le_refl _) d g;have a:rest=[]:=by
  rcases l with ⟨h,_⟩|⟨b,r,_,_,_,h,_⟩
  ·exact h
  omega
 rw[a,List.append_nil]at i;obtain⟨F,e,p⟩:=y2e f true qs V j (by rw[i];exact k);have c:(Pg.partsFrom (bat s) (s.size:Int) ((s.size:Int).toNat+1) 0 0 0 []).ps=ps:=by
  have:=m;rw[List.nil_append]at this;exact this
 refine⟨qs,F,e,by rw[n];rfl,j,?_,p⟩;rw[c];exact o
theorem y3m {t:Tk} (h3:TkOK t) (h4:isSuf t) (le:Nat) (e0:Rx):((Rx.suf t.kd le t.mo.toNat e0).sz:Int)=if t.kd=8 then (e0.sz:Int)*t.mo else e0.sz:=by
 unfold Rx.suf;unfold isSuf at h4;by_cases a:t.kd=8
 ·rw[if_neg (by omega),if_neg (by omega),if_neg (by omega),if_pos a,Rx.copies_sz];have:=(q8b h3 a).1;rw[Int.natCast_mul,Int.mul_comm,Int.toNat_of_nonneg this]
 rw[if_neg a];by_cases b:t.kd=5
 ·rw[if_pos b];rfl
 rw[if_neg b];by_cases c:t.kd=6
 ·rw[if_pos c];rfl
 rw[if_neg c,if_pos (by omega)];rfl
theorem q3E:∀(f k:Nat) (ts:List Tq) (e:Rx),Pp f k ts e->(∀q∈ts,TqOK q)/\∃F,(k=0->Is F false (ts.map Tq.t) e.sz/\∃q r,ts=q::r/\(q.t.kd=1\/q.t.kd=2))/\(k=1->∀G r V,Is G true r V->(∀t r',r=t::r'->¬isSuf t)->∃F',Is F' true (ts.map Tq.t++r) (e.sz+V))/\(2<=k->Is F true (ts.map Tq.t) e.sz):=by
 intro f
 induction f with
 |zero=>intro k ts e h;exact absurd h (by simp[Pp])
 |succ f ih=>
  intro k ts e h;rcases k with _|_|k
  ·unfold Pp at h;rcases h with ⟨q,rfl,c,d,rfl⟩|⟨a,inn,b,e0,rfl,c,d,i,w,H,rfl⟩|⟨q,t,e0,rfl,c,d,i,rfl⟩
   ·exact⟨by simpa using c,1,λ_=>⟨Or.inl ⟨q.t,rfl,c.1,d,rfl⟩,q,[],rfl,Or.inl d⟩,(λh=>by omega),λh=>by omega⟩
   ·obtain⟨m,F,_,_,s⟩:=ih 2 inn e0 H;refine⟨λq n=>?_,F+1,λ_=>⟨Or.inr (Or.inl ⟨a.t,inn.map Tq.t,b.t,by simp,c.1,d,i.1,w,by rw[Rx.nz_sz];exact s (by omega)⟩),a,_,rfl,Or.inr d⟩,(λh=>by omega),λh=>by omega⟩;simp only[List.mem_cons,List.mem_append,List.not_mem_nil,or_false]at n;rcases n with rfl|n|rfl
    ·exact c
    ·exact m q n
    exact i
   obtain⟨m,F,g,_,_⟩:=ih 0 q e0 c;obtain⟨g,N,O,u,C⟩:=g rfl;refine⟨λx o=>?_,F+1,λ_=>⟨Or.inr (Or.inr ⟨q.map Tq.t,t.t,_,by simp,g,d.1,i,?_⟩),N,O++[t],by rw[u];rfl,C⟩,(λh=>by omega),λh=>by omega⟩
   ·rcases List.mem_append.1 o with h|h
    ·exact m x h
    rw[List.mem_singleton.1 h];exact d
   rw[Rx.nz_sz];exact y3m d.1 i _ _
  ·unfold Pp at h;obtain⟨L,rfl,c,rfl⟩:=h;refine⟨λq n=>?_,0,(λh=>by omega),λ_=>?_,λh=>by omega⟩
   ·obtain⟨l,K,B⟩:=List.mem_flatten.1 n;obtain⟨x,o,rfl⟩:=List.mem_map.1 K;exact(ih 0 x.1 x.2 (c x o)).1 q B
   intro G r V I A
   induction L with
   |nil=>exact⟨G,by simpa[Rx.rowOf,Rx.sz]using I⟩
   |cons x L ihL=>
    obtain⟨F',p⟩:=ihL (λy M=>c y (by simp[M]));obtain⟨_,D,g,_,_⟩:=ih 0 x.1 x.2 (c x (by simp));obtain⟨g,_⟩:=g rfl;refine⟨max D F'+1,?_⟩;rw[Rx.rowOf_sz];rw[Rx.rowOf_sz]at p;refine Or.inr (Or.inr ⟨x.1.map Tq.t,_,_,_,?_,q6J g (Nat.le_max_left _ _),q6J p (Nat.le_max_right _ _),?_,?_⟩)
    ·simp
    ·simp;omega
    intro t r' j;rcases L with _|⟨y,L⟩
    ·exact A t r' (by simpa using j)
    obtain⟨_,_,s,_,_⟩:=ih 0 y.1 y.2 (c y (by simp));obtain⟨_,q,P,u,C⟩:=s rfl;have:q.t=t:=by
     rw[List.map_cons,List.flatten_cons]at j;rw[show(y.1)=q::P from u]at j;simp at j;exact j.1
    rw[<-this];unfold isSuf;omega
  unfold Pp at h;rcases h with h|⟨r,b,q,v,e2,rfl,c,d,i,w,rfl⟩
  ·obtain⟨m,F,_,g,_⟩:=ih 1 ts e h;obtain⟨F',z⟩:=g rfl 1 [] 0 (Or.inl ⟨rfl,rfl⟩) (by simp);exact⟨m,F',(λh=>by omega),(λh=>by omega),λ_=>by simpa using z⟩
  obtain⟨m,F,_,g,_⟩:=ih 1 r v i;obtain⟨s,E,_,_,u⟩:=ih 2 q e2 w;have J:Is (E+1) true (b.t::q.map Tq.t) e2.sz:=Or.inr (Or.inl ⟨b.t,_,rfl,c.1,d,u (by omega)⟩);obtain⟨F',z⟩:=g rfl _ _ _ J (by
   intro t r' j;cases j;unfold isSuf;omega)
  refine⟨λx o=>?_,F',(λh=>by omega),(λh=>by omega),λ_=>?_⟩
  ·simp only[List.mem_append,List.mem_cons]at o;rcases o with h|rfl|h
   ·exact m x h
   ·exact c
   exact s x h
  have:((Rx.alt v e2).sz:Int)=(v.sz:Int)+(e2.sz:Int):=by simp[Rx.sz]
  rw[this,List.map_append,List.map_cons];exact z
def rowK:List Int->Int->Nat->Nat
 |[],_,i=>i
 |k::ks,op,i=>if k=4/\op=0 then i else rowK ks (op+Pg.opn k) (i+1)
def atomK:List Int->Int->Nat->Nat
 |[],_,i=>i
 |k::ks,op,i=>if op+Pg.opn k=0 then i+1 else atomK ks (op+Pg.opn k) (i+1)
def kds (ts:List Tq):List Int:=ts.map λq=>q.t.kd
theorem q2e (a b:List Tq):kds (a++b)=kds a++kds b:=by simp[kds]
theorem q6q (a:List Tq):(kds a).length=a.length:=by simp[kds]
theorem y2H {k:Int} (h:k=5\/k=6\/k=7\/k=8):Pg.opn k=0:=by unfold Pg.opn;rw[if_neg (by omega),if_neg (by omega)]
theorem q8W:∀(f k:Nat) (ts:List Tq) (e:Rx),Pp f k ts e ->
  (∀(op:Int) (i:Nat) (rest:List Int),1<=op->atomK (kds ts++rest) op i=atomK rest op (i+ts.length)) /\
  (∀(op:Int) (i:Nat) (rest:List Int),1<=op\/(op=0/\k<=1)->rowK (kds ts++rest) op i=rowK rest op (i+ts.length)) /\
  (k=0->∃m,1<=m/\m<=ts.length/\(∀i rest,atomK (kds ts++rest) 0 i=i+m)/\∀q∈ts.drop m,isSuf q.t):=by
 intro f
 induction f with
 |zero=>intro k ts e h;exact absurd h (by simp[Pp])
 |succ f ih=>
  intro k ts e h;rcases k with _|_|k
  ·unfold Pp at h;rcases h with ⟨q,rfl,j,p,rfl⟩|⟨a,inn,b,e0,rfl,j,p,s,u,D,rfl⟩|⟨q,t,e0,rfl,j,p,s,rfl⟩
   ·have n:Pg.opn q.t.kd=0:=by rw[p];rfl
    refine⟨λop i rest c=>?_,λop i rest c=>?_,λ_=>⟨1,by omega,by simp,λi rest=>?_,by simp⟩⟩
    ·simp only[kds,List.map_cons,List.map_nil,List.cons_append,List.nil_append,atomK,n,Int.add_zero];rw[if_neg (by omega)];rfl
    ·simp only[kds,List.map_cons,List.map_nil,List.cons_append,List.nil_append,rowK,n,Int.add_zero];rw[if_neg (by omega)];rfl
    simp[kds,atomK,n]
   ·obtain⟨g,o,_⟩:=ih 2 inn e0 D;have ha:Pg.opn a.t.kd=1:=by rw[p];rfl
    have v:Pg.opn b.t.kd=-1:=by rw[u];rfl
    have d:kds (a::(inn++[b]))=a.t.kd::(kds inn++[b.t.kd]):=by simp[kds]
    have l:(a::(inn++[b])).length=inn.length+2:=by simp
    refine⟨λop i rest c=>?_,λop i rest c=>?_,λ_=>⟨inn.length+2,by omega,by simp,λi rest=>?_,λq z=>?_⟩⟩
    ·rw[d,List.cons_append,atomK,ha,if_neg (by omega),List.append_assoc,g _ _ _ (by omega),List.singleton_append,atomK,v,if_neg (by omega),l];congr 1<;>omega
    ·rw[d,List.cons_append,rowK,ha,if_neg (by omega),List.append_assoc,o _ _ _ (Or.inl (by omega)),List.singleton_append,rowK,v,if_neg (by omega),l];congr 1<;>omega
    ·rw[d,List.cons_append,atomK,ha,if_neg (by omega),List.append_assoc,g _ _ _ (by omega),List.singleton_append,atomK,v,if_pos (by omega)];omega
    rw[List.drop_of_length_le (by rw[l];omega)]at z;cases z
   obtain⟨g,o,E⟩:=ih 0 q e0 j;obtain⟨m,H,m2,I,J⟩:=E rfl;have n:Pg.opn t.t.kd=0:=y2H (by unfold isSuf at s;omega);have C:t.t.kd≠4:=by unfold isSuf at s;omega
   have d:kds (q++[t])=kds q++[t.t.kd]:=by simp[kds]
   have l:(q++[t]).length=q.length+1:=by simp
   refine⟨λop i rest c=>?_,λop i rest c=>?_,λ_=>⟨m,H,by omega,λi rest=>?_,λx A=>?_⟩⟩
   ·rw[d,List.append_assoc,g _ _ _ c,List.singleton_append,atomK,n,if_neg (by omega),l];congr 1;omega
   ·rw[d,List.append_assoc,o _ _ _ c,List.singleton_append,rowK,n,if_neg (by omega),l];congr 1;omega
   ·rw[d,List.append_assoc];exact I _ _
   rw[List.drop_append_of_le_length m2]at A;rcases List.mem_append.1 A with h|h
   ·exact J x h
   rw[List.mem_singleton.1 h];exact s
  ·unfold Pp at h;obtain⟨L,rfl,j,rfl⟩:=h;refine⟨λop i rest c=>?_,λop i rest c=>?_,λh=>by omega⟩
   ·induction L generalizing i with
    |nil=>simp[kds]
    |cons x L ihL=>
     obtain⟨g,_,_⟩:=ih 0 x.1 x.2 (j x (by simp));have:=ihL (λy w=>j y (by simp[w])) (i+x.1.length);rw[List.map_cons,List.flatten_cons,q2e,List.append_assoc,g _ _ _ c,this,List.length_append];congr 1;omega
   induction L generalizing i with
   |nil=>simp[kds]
   |cons x L ihL=>
    obtain⟨_,o,_⟩:=ih 0 x.1 x.2 (j x (by simp));have:=ihL (λy w=>j y (by simp[w])) (i+x.1.length);rw[List.map_cons,List.flatten_cons,q2e,List.append_assoc,o _ _ _ (by omega),this,List.length_append];congr 1;omega
  unfold Pp at h;rcases h with h|⟨r,b,q,B,e2,rfl,j,p,s,u,rfl⟩
  ·obtain⟨g,o,_⟩:=ih 1 ts e h;exact⟨g,λop i rest c=>o op i rest (by omega),λh=>by omega⟩
  obtain⟨g,o,_⟩:=ih 1 r B s;obtain⟨F,G,_⟩:=ih 2 q e2 u;have n:Pg.opn b.t.kd=0:=by rw[p];rfl
  have d:kds (r++b::q)=kds r++(b.t.kd::kds q):=by simp[kds]
  have l:(r++b::q).length=r.length+1+q.length:=by simp;omega
  refine⟨λop i rest c=>?_,λop i rest c=>?_,λh=>by omega⟩
  ·rw[d,List.append_assoc,g _ _ _ c,List.cons_append,atomK,n,if_neg (by omega),Int.add_zero,F _ _ _ c,l];congr 1;omega
  rw[d,List.append_assoc,o _ _ _ (by omega),List.cons_append,rowK,n,if_neg (by omega),Int.add_zero,G _ _ _ (by omega),l];congr 1;omega
def Sm (p:Pg.Pt) (q:Tq):Prop:=p.kd=q.t.kd/\p.mo=q.t.mo/\p.f=q.f/\(p.kd=8->p.le=q.le)
theorem Both.len {α β:Type}{R:α->β->Prop}{l:List α}{m:List β} (h:Both R l m):l.length=m.length:=by
 induction h with
 |nil=>rfl
 |cons h t ih=>simp[ih]
theorem Both.split {α β:Type}{R:α->β->Prop}:∀(a:List β) (b:List β) (l:List α),Both R l (a++b)->Both R (l.take a.length) a/\Both R (l.drop a.length) b
 |[],b,l,h=>⟨by simpa using Both.nil,by simpa using h⟩
 |x::a,b,l,h=>by
  cases h with
  |cons h t=>
   obtain⟨c,d⟩:=Both.split a b _ t;exact⟨by simpa using Both.cons h c,by simpa using d⟩
theorem Both.kds {ps:List Pg.Pt}{ts:List Tq} (h:Both Sm ps ts):ps.map (λp=>p.kd)=kds ts:=by
 induction h with
 |nil=>rfl
 |cons h t ih=>
  simp only[List.map_cons,ih,Go.Proofs.YtoaaklhpmhjhkaaGreat.kds];rw[h.1]
theorem Both.two {ps:List Pg.Pt} (h:Both Sm ps ts):ps.map (λp=>(p.kd,p.mo))=(ts.map Tq.t).map (λt=>(t.kd,t.mo)):=by
 induction h with
 |nil=>rfl
 |cons h t ih=>simp only[List.map_cons,ih];rw[h.1,h.2.1]
theorem q8t {ps:List Pg.Pt} (h:Pp f 0 ts e) (hb:Both Sm ps ts):Pg.countPlaces ps=Pg.capped e.sz:=by
 obtain⟨_,F,l,_,_⟩:=q3E f 0 ts e h;obtain⟨j,_⟩:=l rfl;obtain⟨k,i,_⟩:=machine F false (ts.map Tq.t) e.sz j;have c:=i rfl ⟨0,0,[]⟩ (by simp) (by simp);rw[Pg.countPlaces,q3P ps ((ts.map Tq.t).map ptOf) (by rw[hb.two];simp[ptOf]),c];simp only;have d:Pg.capped (0+0)=0:=rfl;have g:=q2K (a:=(e.sz:Int)) (b:=0) k (by omega);rw[d,show(0:Int)+Pg.capped (e.sz:Int)=Pg.capped (e.sz:Int)+0 by omega,g];simp
theorem q8u:Pg.capped (n:Int)=0<->n=0:=by rw[q1P];split<;>omega
theorem q8A (s:ByteArray) (h:(Pg.readParts (bat s) s.size).ok=true):∃e qs f,txt (qs.map Tq.t)=s.data.toList/\(∀q∈qs,TqOK q)/\Both (SameP s) (Pg.readParts (bat s) s.size).ps qs/\Pp f 2 qs e:=by
 obtain⟨qs,f,e,a,b,c,d⟩:=q9V s h;exact⟨e,qs,f,a,b,c,d⟩
open Classical in
noncomputable def rxOf (s:ByteArray):Rx:=if h:(Pg.readParts (bat s) s.size).ok=true then Classical.choose (q8A s h) else .eps
theorem q3g (s:ByteArray) (h:(Pg.readParts (bat s) s.size).ok=true):∃qs f,txt (qs.map Tq.t)=s.data.toList/\(∀q∈qs,TqOK q)/\Both (SameP s) (Pg.readParts (bat s) s.size).ps qs/\Pp f 2 qs (rxOf s):=by
 have:=Classical.choose_spec (q8A s h);unfold rxOf;rw[dif_pos h];exact this
theorem Both.twoP {s:ByteArray}{ps:List Pg.Pt} (h:Both (SameP s) ps ts):ps.map (λp=>(p.kd,p.mo))=(ts.map Tq.t).map (λt=>(t.kd,t.mo)):=by
 induction h with
 |nil=>rfl
 |cons h t ih=>simp only[List.map_cons,ih];rw[h.1,h.2.1]
theorem q6C {ps:List Pg.Pt} (h:Pp f 2 ts e) (hb:ps.map (λp=>(p.kd,p.mo))=(ts.map Tq.t).map (λt=>(t.kd,t.mo))):Pg.countPlaces ps=Pg.capped e.sz:=by
 obtain⟨_,F,_,_,g⟩:=q3E f 2 ts e h;have c:=g (Nat.le_refl _);obtain⟨j,_,d⟩:=machine F true (ts.map Tq.t) e.sz c;obtain⟨i,k,a,_,_,b⟩:=d rfl ⟨0,0,[]⟩ (by simp) (by simp);rw[Pg.countPlaces,q3P ps ((ts.map Tq.t).map ptOf) (by rw[hb];simp[ptOf]),a];simp only;rw[b];simp
theorem q3i (s:ByteArray) (h:(Pg.readParts (bat s) s.size).ok=true):Pg.countPlaces (Pg.readParts (bat s) s.size).ps=Pg.capped (rxOf s).sz:=by
 obtain⟨c,f,_,_,a,b⟩:=q3g s h;exact q6C b a.twoP
def netN (es:Nat->Rx):Nat->Nat
 |0=>0
 |k+1=>netN es k+(es k).sz
theorem q0M (es:Nat->Rx) {a b:Nat} (h:a<=b):netN es a<=netN es b:=by
 induction b with
 |zero=>
   have:a=0:=by omega
   subst this;exact Nat.le_refl _
 |succ b ih=>
  by_cases e:a=b+1
  ·subst e;exact Nat.le_refl _
  have:=ih (by omega);simp only[netN];omega
theorem q6i (es:Nat->Rx) (u:Nat->Int):∀n,(∀i,i<n->u i=Pg.capped (es i).sz)->¬96<sumTo u n->sumTo u n=(netN es n:Int)/\netN es n<=96:=by
 intro n f hs;have a:=(q7G (u:=u) (v:=λi=>((es i).sz:Int)) n (λi e=>⟨by omega,f i e⟩));have b:∀m,sumTo (λi=>((es i).sz:Int)) m=(netN es m:Int):=by
  intro m
  induction m with
  |zero=>rfl
  |succ m ih=>simp only[sumTo,netN,ih];omega
 rw[b]at a;have c:¬96<(netN es n:Int):=λh=>hs (a.1.2 h)
 have d:=a.2 c;exact⟨d,by omega⟩
end Go.Proofs.YtoaaklhpmhjhkaaGreat
