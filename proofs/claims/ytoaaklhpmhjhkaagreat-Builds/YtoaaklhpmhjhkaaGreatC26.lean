import Derived.Test.YtoaaklhpmhjhkaaGreatC25
set_option maxRecDepth 100000
set_option maxHeartbeats 4000000
set_option linter.all false
namespace Go.Proofs.YtoaaklhpmhjhkaaGreat
open Go.RowKit
theorem y3j (s:ByteArray) (k:Nat) (c:UInt8) (r:List UInt8) (hd:s.data.toList.drop k=c::r) (h0:Pg.kindOf (bat s k)≠0) (hok:(Pg.readPart (bat s) s.size k (Pg.kindOf (bat s k))).ok=true):
  ∃n:Nat,1<=n/\k+n<=s.size/\(Pg.readPart (bat s) s.size k (Pg.kindOf (bat s k))).n=((k+n:Nat):Int)/\TkOK ⟨(s.data.toList.drop k).take n,Pg.kindOf (bat s k),(Pg.readPart (bat s) s.size k (Pg.kindOf (bat s k))).mo⟩:=by
 have hb:bat s (k:Int)=c.toNat:=by rw[q4W hd];rfl
 have hlt:=q0T hd;have hlen:r.length+1=s.size-k:=by
  have:(s.data.toList.drop k).length=s.size-k:=by simp
  rw[hd]at this;simpa using this
 by_cases e91:c=91
 ·subst e91;have hk:Pg.kindOf (bat s k)=1:=by rw[hb];rfl
  have hb':bat s (k:Int)=91:=hb;rw[hk]at hok ⊢;have hP:Pg.readPart (bat s) s.size k 1=⟨(Pg.readSet (bat s) s.size k).n,(Pg.readSet (bat s) s.size k).ok,(Pg.readSet (bat s) s.size k).f,0,(Pg.readSet (bat s) s.size k).fa⟩:=by
   rw[Pg.readPart,if_pos rfl,Pg.readPlace,if_pos hb']
  rw[hP]at hok ⊢;rcases q4t s k r 0 0 0 (Or.inl rfl) hd with ⟨n,F,FA,h1,h2,h3,h4,_⟩|⟨h1,_⟩
  ·refine⟨n-k,by omega,by omega,?_,Or.inl ⟨rfl,Or.inr (Or.inr ⟨r.take (n-k-1),?_,fun r' i'=>?_⟩)⟩⟩
   ·rw[h3,show k+(n-k)=n by omega]
   ·show(s.data.toList.drop k).take (n-k)=_;rw[hd,show n-k=(n-k-1)+1 by omega,List.take_succ_cons];rfl
   ·obtain⟨fa,h⟩:=q6Q h4 r' i';refine⟨fa,F,?_⟩;rw[h,List.length_take,show i'+(n-k)=i'+(min (n-k-1) r.length+1) by omega]
  ·rw[h1]at hok;cases hok
 by_cases e92:c=92
 ·subst e92;have hk:Pg.kindOf (bat s k)=1:=by rw[hb];rfl
  have hb':bat s (k:Int)=92:=hb;rw[hk]at hok ⊢;have hP:Pg.readPart (bat s) s.size k 1=⟨(Pg.readEscape (bat s) k).n,(Pg.readEscape (bat s) k).ok,Pg.withF (fun _=>false) (Pg.readEscape (bat s) k).v (Pg.readEscape (bat s) k).v,0,-1⟩:=by
   rw[Pg.readPart,if_pos rfl,Pg.readPlace,if_neg (by rw[hb'];decide),if_neg (by rw[hb'];decide),if_pos hb']
  rw[hP]at hok ⊢;rcases q3v s k r hd with ⟨n,v,h1,h2,h3,_⟩|⟨n,h1,_⟩
  ·refine⟨n+1,by omega,by omega,by rw[h1],Or.inl ⟨rfl,Or.inr (Or.inl ⟨r.take n,v,?_,fun r'=>?_⟩)⟩⟩
   ·show(s.data.toList.drop k).take (n+1)=_;rw[hd,List.take_succ_cons]
   ·have:=q2w h2 r';rw[List.take_succ_cons,List.cons_append]at this;rw[this,List.length_take,Nat.min_eq_left h3]
  ·rw[h1]at hok;cases hok
 by_cases e123:c=123
 ·subst e123;have hk:Pg.kindOf (bat s k)=8:=by rw[hb];rfl
  rw[hk]at hok ⊢;have hP:Pg.readPart (bat s) s.size k 8=⟨(Pg.readCount (bat s) k).n,(Pg.readCount (bat s) k).ok,fun _=>false,(Pg.readCount (bat s) k).v,Pg.countFalls (bat s) k⟩:=rfl;rw[hP]at hok ⊢;rcases q4Q s k r 0 0 hd with ⟨n,mo,le,h1,_,h3,_⟩|⟨h1,_⟩
  ·rw[h1];have hC:IsCountW ((123::r).take n) mo:=by
    rcases h3 with ⟨x,r',rfl,rfl,x1,x2,rfl,_⟩|⟨x,z,r',rfl,rfl,x1,x2,z1,z2,rfl,_⟩
    ·exact Or.inl ⟨x,rfl,x1,x2,rfl⟩
    ·exact Or.inr ⟨x,z,rfl,x1,x2,z1,z2,rfl⟩
   have hn:1<=n/\n<=r.length+1:=by
    rcases h3 with ⟨x,r',rfl,rfl,_⟩|⟨x,z,r',rfl,rfl,_⟩<;>(simp)
   refine⟨n,hn.1,by omega,rfl,?_⟩;rw[hd];exact Or.inr (Or.inr (Or.inr (Or.inr (Or.inr (Or.inr (Or.inr ⟨rfl,hC⟩))))))
  ·rw[h1]at hok;cases hok
 have hother:∀kd:Int,kd≠1->kd≠8->Pg.readPart (bat s) s.size k kd=⟨(k:Int)+1,true,fun _=>false,0,-1⟩:=fun kd h1 h8=>by rw[Pg.readPart,if_neg h1,if_neg h8]
 have hone:(s.data.toList.drop k).take 1=[c]:=by rw[hd];rfl
 have fin:∀kd:Int,Pg.kindOf (bat s k)=kd->(Pg.readPart (bat s) s.size k kd).n=(k:Int)+1->TkOK ⟨[c],kd,(Pg.readPart (bat s) s.size k kd).mo⟩ ->
   ∃n:Nat,1<=n/\k+n<=s.size/\(Pg.readPart (bat s) s.size k (Pg.kindOf (bat s k))).n=((k+n:Nat):Int)/\TkOK ⟨(s.data.toList.drop k).take n,Pg.kindOf (bat s k),(Pg.readPart (bat s) s.size k (Pg.kindOf (bat s k))).mo⟩:=by
  intro kd h1 h2 h3;rw[h1];exact⟨1,by omega,by omega,by rw[h2];rfl,by rw[hone];exact h3⟩
 by_cases e40:c=40
 ·subst e40;exact fin 2 (by rw[hb];rfl) (by rw[hother 2 (by decide) (by decide)]) (Or.inr (Or.inl ⟨rfl,rfl⟩))
 by_cases e41:c=41
 ·subst e41;exact fin 3 (by rw[hb];rfl) (by rw[hother 3 (by decide) (by decide)]) (Or.inr (Or.inr (Or.inl ⟨rfl,rfl⟩)))
 by_cases e124:c=124
 ·subst e124;exact fin 4 (by rw[hb];rfl) (by rw[hother 4 (by decide) (by decide)]) (Or.inr (Or.inr (Or.inr (Or.inl ⟨rfl,rfl⟩))))
 by_cases e42:c=42
 ·subst e42;exact fin 5 (by rw[hb];rfl) (by rw[hother 5 (by decide) (by decide)]) (Or.inr (Or.inr (Or.inr (Or.inr (Or.inl ⟨rfl,rfl⟩)))))
 by_cases e43:c=43
 ·subst e43;exact fin 6 (by rw[hb];rfl) (by rw[hother 6 (by decide) (by decide)]) (Or.inr (Or.inr (Or.inr (Or.inr (Or.inr (Or.inl ⟨rfl,rfl⟩))))))
 by_cases e63:c=63
 ·subst e63;exact fin 7 (by rw[hb];rfl) (by rw[hother 7 (by decide) (by decide)]) (Or.inr (Or.inr (Or.inr (Or.inr (Or.inr (Or.inr (Or.inl ⟨rfl,rfl⟩)))))))
 by_cases e93:c=93
 ·subst e93;exact absurd (by rw[hb];rfl) h0
 by_cases e125:c=125
 ·subst e125;exact absurd (by rw[hb];rfl) h0
 have n91:(c.toNat:Int)≠91:=q0G e91;have n92:(c.toNat:Int)≠92:=q0G e92;have n123:(c.toNat:Int)≠123:=q0G e123;have n40:(c.toNat:Int)≠40:=q0G e40;have n41:(c.toNat:Int)≠41:=q0G e41;have n124:(c.toNat:Int)≠124:=q0G e124;have n42:(c.toNat:Int)≠42:=q0G e42;have n43:(c.toNat:Int)≠43:=q0G e43;have n63:(c.toNat:Int)≠63:=q0G e63;have n93:(c.toNat:Int)≠93:=q0G e93;have n125:(c.toNat:Int)≠125:=q0G e125;have hk1:Pg.kindOf (bat s k)=1:=by
  rw[hb];unfold Pg.kindOf;rw[if_neg (by omega),if_neg n40,if_neg n41,if_neg n124,if_neg n42,if_neg n43,if_neg n63,if_neg n123]
 refine fin 1 hk1 ?_ (Or.inl ⟨rfl,Or.inl ⟨c,rfl,?_⟩⟩)
 ·rw[Pg.readPart,if_pos rfl,Pg.readPlace,hb,if_neg n91];by_cases e46:(c.toNat:Int)=46
  ·rw[if_pos e46]
  ·rw[if_neg e46,if_neg n92]
 ·unfold Special;intro h;rcases h with h|h|h|h|h|h|h|h|h|h|h<;>contradiction
theorem y1v (s:ByteArray):∀(u k:Nat) (bf op:Int) (acc:List Pg.Pt),s.size<u+k->k<=s.size->(Pg.partsFrom (bat s) s.size u bf op k acc).ok=true ->
  ∃ps ts,(Pg.partsFrom (bat s) s.size u bf op k acc).ps=acc++ps/\txt ts=s.data.toList.drop k/\Val ts bf op/\ps.map (fun p=>(p.kd,p.mo))=ts.map (fun t=>(t.kd,t.mo)):=by
 intro u
 induction u with
 |zero=>intro k bf op acc h1 h2;omega
 |succ u ih=>
  intro k bf op acc hu hk hok;rcases hd:s.data.toList.drop k with _|⟨c,r⟩
  ·have hks:k=s.size:=by
    have:s.size<=k:=by simpa using hd
    omega
   have hge:¬(k:Int)<(s.size:Int):=by omega
   rw[Pg.partsFrom,if_neg hge]at hok ⊢;exact⟨[],[],by simp,rfl,by simpa[Val]using hok,rfl⟩
  ·have hlt:=q0T hd;have hlti:(k:Int)<(s.size:Int):=by omega
   rw[Pg.partsFrom,if_pos hlti]at hok ⊢;cases hc:Pg.canStand (Pg.kindOf (bat s k)) bf op
   ·rw[hc]at hok;cases hok
   rw[hc]at hok;simp only[if_true]at hok ⊢;cases hp:(Pg.readPart (bat s) s.size k (Pg.kindOf (bat s k))).ok
   ·rw[hp]at hok;cases hok
   rw[hp]at hok;simp only[if_true]at hok ⊢;have h0:Pg.kindOf (bat s k)≠0:=by
    intro e;rw[e]at hc;simp[Pg.canStand]at hc
   obtain⟨n,n1,n2,n3,n4⟩:=y3j s k c r hd h0 hp;rw[n3]at hok ⊢;obtain⟨ps,ts,g1,g2,g3,g4⟩:=ih (k+n) _ _ _ (by omega) n2 hok;refine⟨_::ps,⟨(s.data.toList.drop k).take n,Pg.kindOf (bat s k),(Pg.readPart (bat s) s.size k (Pg.kindOf (bat s k))).mo⟩::ts,by rw[g1,List.append_assoc];rfl,?_,⟨n4,hc,g3⟩,?_⟩
   ·rw[q0P,g2,<-hd,<-q0n,List.take_append_drop]
   ·simp only[List.map_cons,g4]
theorem q3P:∀(ps qs:List Pg.Pt),ps.map (fun p=>(p.kd,p.mo))=qs.map (fun p=>(p.kd,p.mo))->∀c,Pg.cRun ps c=Pg.cRun qs c:=by
 intro ps
 induction ps with
 |nil=>
  intro qs h c;rcases qs with _|⟨q,qs⟩
  ·rfl
  ·simp at h
 |cons p ps ih=>
  intro qs h c;rcases qs with _|⟨q,qs⟩
  ·simp at h
  ·simp only[List.map_cons,List.cons.injEq,Prod.mk.injEq]at h;obtain⟨⟨h1,h2⟩,h3⟩:=h;have hs:Pg.cStep c p=Pg.cStep c q:=by unfold Pg.cStep;rw[h1,h2]
   simp only[Pg.cRun];rw[hs];exact ih qs h3 _
theorem q7c (s:ByteArray) (h:(Pg.readParts (bat s) s.size).ok=true):∃V g,Rf.cnt g true s.data.toList=some V/\0<=V/\Pg.countPlaces (Pg.readParts (bat s) s.size).ps=Pg.capped V:=by
 unfold Pg.readParts at h ⊢;obtain⟨ps,ts,h1,h2,h3,h4⟩:=y1v s ((s.size:Int).toNat+1) 0 0 0 [] (by omega) (by omega) h;have hns:∀t r,ts=t::r->¬isSuf t:=by
  intro t r e hs;rw[e]at h3;have:=h3.2.1;unfold isSuf at hs;simp[Pg.canStand,Pg.endsPiece,Pg.isSuffix]at this;rcases hs with h|h|h|h<;>simp[h]at this
 obtain⟨f,inn,rest,V,g1,g2,g3⟩:=parse ts.length ts 0 0 (Nat.le_refl _) (Int.le_refl _) h3 hns;have hrest:rest=[]:=by
  rcases g3 with ⟨h,_⟩|⟨b,r,_,_,_,h,_⟩
  ·exact h
  ·omega
 rw[hrest,List.append_nil]at g1;subst g1;obtain⟨G,hG⟩:=counts f true ts V g2;obtain⟨hV,_,hT⟩:=machine f true ts V g2;obtain⟨ah,la,e1,_,_,e4⟩:=hT rfl ⟨0,0,[]⟩ (by simp) (by simp);refine⟨V,G,?_,hV,?_⟩
 ·have:=hG 0;rw[h2,List.drop_zero,Nat.zero_add]at this;exact this
 ·have h1':(Pg.partsFrom (bat s) (s.size:Int) ((s.size:Int).toNat+1) 0 0 0 []).ps=ps:=by
   have:=h1;rw[List.nil_append]at this;exact this
  rw[h1',Pg.countPlaces,q3P ps (ts.map ptOf) (by rw[h4,List.map_map];rfl),e1];simp only;rw[e4];simp
theorem q0N (s:ByteArray):Rf.WrongIs s.data.toList (Pg.wrong (bat s) s.size).1 (Pg.wrong (bat s) s.size).2/\((Pg.wrong (bat s) s.size).1=0->(Pg.wrong (bat s) s.size).2=0/\s.size<=40/\(Pg.readParts (bat s) s.size).ok=true):=by
 have hl:s.data.toList.length=s.size:=by simp
 by_cases h40:40<s.size
 ·have:Pg.wrong (bat s) s.size=(2,0):=by rw[Pg.wrong,if_pos (by omega)]
  rw[this];exact⟨Or.inl ⟨by omega,rfl,rfl⟩,fun h=>by simp at h⟩
 have hw:Pg.wrong (bat s) s.size=if (Pg.readParts (bat s) s.size).ok then
  (if Pg.tooDeep (Pg.readParts (bat s) s.size).ps 0=-1 then
   (if Pg.falling (Pg.readParts (bat s) s.size).ps=-1 then
    (if Pg.matchless (Pg.readParts (bat s) s.size).ps=-1 then (0,0) else (6,Pg.matchless (Pg.readParts (bat s) s.size).ps))
   else (5,Pg.falling (Pg.readParts (bat s) s.size).ps))
  else (4,Pg.tooDeep (Pg.readParts (bat s) s.size).ps 0))
  else (3,(Pg.readParts (bat s) s.size).n):=by rw[Pg.wrong,if_neg (by omega)]
 rw[hw];have hc:=q4A s ((s.size:Int).toNat+1) 0 0 0 0 [] (by omega) (by omega) (by omega);have hm0:modeOf 0=0:=rfl;rw[hm0,List.drop_zero]at hc;have hR:Pg.partsFrom (bat s) s.size ((s.size:Int).toNat+1) 0 0 ((0:Nat):Int) []=Pg.readParts (bat s) s.size:=rfl;rw[hR]at hc;rcases hc with ⟨h1,h2,h3⟩|⟨ps,h1,h2,h3,h4,⟨cv,h5⟩,⟨ce,h6⟩,h7⟩
 ·rw[h1];simp only[Bool.false_eq_true,if_false];have hf:Rf.form s.data.toList=(Pg.readParts (bat s) s.size).n:=h2;exact⟨Or.inr ⟨by omega,Or.inl ⟨by rw[hf];exact h3,rfl,hf.symm⟩⟩,fun h=>by simp at h⟩
 ·rw[List.nil_append]at h2;rw[h1,h2];simp only[if_true];have hf:Rf.form s.data.toList<0:=by
   have:Rf.form s.data.toList=-1:=h3;omega
  have hdp:Rf.deep s.data.toList=Pg.tooDeep ps 0:=h4 (by omega);have hbd:∀(ps:List Pg.Pt) (op:Int),(∀p∈ps,0<=p.pl/\-1<=p.fa)->(Pg.tooDeep ps op=-1\/0<=Pg.tooDeep ps op)/\(Pg.falling ps=-1\/0<=Pg.falling ps)/\(Pg.matchless ps=-1\/0<=Pg.matchless ps):=by
   intro ps
   induction ps with
   |nil=>intro op _;exact⟨Or.inl rfl,Or.inl rfl,Or.inl rfl⟩
   |cons p ps ih=>
    intro op hp;obtain⟨i1,i2,i3⟩:=ih (Pg.opens p.kd op) (fun q hq=>hp q (by simp[hq]));obtain⟨p1,p2⟩:=hp p (by simp);refine⟨?_,?_,?_⟩
    ·rw[Pg.tooDeep];split
     ·exact Or.inr p1
     ·exact i1
    ·rw[Pg.falling];split
     ·exact i2
     ·exact Or.inr (by omega)
    ·rw[Pg.matchless];split
     ·exact Or.inr p1
     ·exact i3
  obtain⟨b1,b2,b3⟩:=hbd ps 0 h7;by_cases hD:Pg.tooDeep ps 0=-1
  ·rw[if_pos hD];by_cases hF:Pg.falling ps=-1
   ·rw[if_pos hF];have hV:=h5 0;have hE:=h6 0;by_cases hM:Pg.matchless ps=-1
    ·rw[if_pos hM];exact⟨Or.inr ⟨by omega,Or.inr ⟨hf,Or.inr ⟨by rw[hdp,hD];decide,_,_,hV,Or.inr ⟨by rw[hF];decide,_,_,hE,Or.inr ⟨by rw[hM];decide,rfl,rfl⟩⟩⟩⟩⟩,fun _=>⟨rfl,by omega,trivial⟩⟩
    ·rw[if_neg hM];exact⟨Or.inr ⟨by omega,Or.inr ⟨hf,Or.inr ⟨by rw[hdp,hD];decide,_,_,hV,Or.inr ⟨by rw[hF];decide,_,_,hE,Or.inl ⟨by omega,rfl,rfl⟩⟩⟩⟩⟩,fun h=>by simp at h⟩
   ·rw[if_neg hF];exact⟨Or.inr ⟨by omega,Or.inr ⟨hf,Or.inr ⟨by rw[hdp,hD];decide,_,_,h5 0,Or.inl ⟨by omega,rfl,rfl⟩⟩⟩⟩,fun h=>by simp at h⟩
  ·rw[if_neg hD];exact⟨Or.inr ⟨by omega,Or.inr ⟨hf,Or.inl ⟨by omega,rfl,hdp.symm⟩⟩⟩,fun h=>by simp at h⟩
theorem q5P {u:Nat->Int}:∀n,(∀i,i<n->0<=u i)->0<=sumTo u n
 |0,_=>Int.le_refl _
 |n+1,h=>by simp only[sumTo];have:=q5P n (fun i hi=>h i (by omega));have:=h n (by omega);omega
theorem q7G {u v:Nat->Int}:∀n,(∀i,i<n->0<=v i/\u i=Pg.capped (v i))->(96<sumTo u n<->96<sumTo v n)/\(¬96<sumTo v n->sumTo u n=sumTo v n)
 |0,_=>⟨Iff.rfl,fun _=>rfl⟩
 |n+1,h=>by
  obtain⟨h1,h2⟩:=q7G n (fun i hi=>h i (by omega));obtain⟨v0,hu⟩:=h n (by omega);have s1:=q5P n (fun i hi=>(h i (by omega)).1);have s2:0<=sumTo u n:=q5P n (fun i hi=>by rw[(h i (by omega)).2];exact q2i (h i (by omega)).1);simp only[sumTo];rw[hu,q1P];split
  ·constructor
   ·omega
   ·intro;omega
  ·by_cases hs:96<sumTo v n
   ·have:=h1.2 hs;constructor
    ·omega
    ·intro;omega
   ·have:=h2 hs;constructor
    ·omega
    ·intro;omega
def PlaceSet (w:List UInt8) (f:Nat->Bool):Prop:=
 (w=[46]/\∀b,b<256->f b=(b != 10)) \/
 (∃c v r0,w=c::r0/\c≠46/\c≠91/\c≠40/\(∀r,Rf.one (w++r)=some (v,w.length))/\∀b,b<256->f b=decide ((b:Int)=v)) \/
 (∃e,w=91::e/\∀r i,∃fa,Rf.set (e++r) i=some (i+(e.length+1),fa,f))
def LeW (w:List UInt8) (le:Int):Prop:=∃(x:UInt8) (r:List UInt8),w=123::x::r/\48<=(x.toNat:Int)/\(x.toNat:Int)<=57/\le=(x.toNat:Int)-48
theorem q4n {v:Int} (b:Nat):Pg.withF (fun _=>false) v v b=decide ((b:Int)=v):=by
 unfold Pg.withF;by_cases h:(b:Int)=v
 ·simp[h]
 ·have:¬(v<=(b:Int)/\(b:Int)<=v):=by omega
  simp only[Bool.false_or,h,decide_false];rcases Int.lt_or_le (b:Int) v with h1|h1
  ·simp[show ¬v<=(b:Int) by omega]
  ·simp[show ¬(b:Int)<=v by omega]
theorem y0j (s:ByteArray) (k n:Nat) (c:UInt8) (r:List UInt8) (hd:s.data.toList.drop k=c::r) (h1:Pg.kindOf (bat s k)=1) (hok:(Pg.readPart (bat s) s.size k 1).ok=true) (hn:(Pg.readPart (bat s) s.size k 1).n=((k+n:Nat):Int)) (_hn2:k+n<=s.size):
  PlaceSet ((s.data.toList.drop k).take n) (Pg.readPart (bat s) s.size k 1).f:=by
 have hb:bat s (k:Int)=c.toNat:=by rw[q4W hd];rfl
 by_cases e91:c=91
 ·subst e91;have hb':bat s (k:Int)=91:=hb;have hP:Pg.readPart (bat s) s.size k 1=⟨(Pg.readSet (bat s) s.size k).n,(Pg.readSet (bat s) s.size k).ok,(Pg.readSet (bat s) s.size k).f,0,(Pg.readSet (bat s) s.size k).fa⟩:=by
   rw[Pg.readPart,if_pos rfl,Pg.readPlace,if_pos hb']
  rw[hP]at hok hn ⊢;rcases q4t s k r 0 0 0 (Or.inl rfl) hd with ⟨m,F,FA,g1,g2,g3,g4,_⟩|⟨g1,_⟩
  ·rw[g3]at hn ⊢;simp only at hn ⊢;have hm:m=k+n:=by omega
   refine Or.inr (Or.inr ⟨r.take (n-1),?_,fun r' i'=>?_⟩)
   ·rw[hd,show n=(n-1)+1 by omega,List.take_succ_cons];rfl
   ·obtain⟨fa,h⟩:=q6Q g4 r' i';refine⟨fa,?_⟩;have hlen:r.length+1=s.size-k:=by
     have:(s.data.toList.drop k).length=s.size-k:=by simp
     rw[hd]at this;simpa using this
    rw[show m-k-1=n-1 by omega]at h;rw[h,List.length_take,show i'+(m-k)=i'+(min (n-1) r.length+1) by omega]
  ·rw[g1]at hok;cases hok
 by_cases e92:c=92
 ·subst e92;have hb':bat s (k:Int)=92:=hb;have hP:Pg.readPart (bat s) s.size k 1=⟨(Pg.readEscape (bat s) k).n,(Pg.readEscape (bat s) k).ok,Pg.withF (fun _=>false) (Pg.readEscape (bat s) k).v (Pg.readEscape (bat s) k).v,0,-1⟩:=by
   rw[Pg.readPart,if_pos rfl,Pg.readPlace,if_neg (by rw[hb'];decide),if_neg (by rw[hb'];decide),if_pos hb']
  rw[hP]at hok hn ⊢;rcases q3v s k r hd with ⟨m,v,g1,g3,g4,_⟩|⟨m,g1,_⟩
  ·rw[g1]at hn ⊢;simp only at hn ⊢;have hm:n=m+1:=by omega
   subst hm;refine Or.inr (Or.inl ⟨92,v,r.take m,by rw[hd,List.take_succ_cons],by decide,by decide,by decide,fun r'=>?_,fun b _=>q4n b⟩);rw[hd];have:=q2w g3 r';rw[this];congr 2;simp;omega
  ·rw[g1]at hok;cases hok
 by_cases e46:c=46
 ·subst e46;have hb':bat s (k:Int)=46:=hb;have hP:Pg.readPart (bat s) s.size k 1=⟨(k:Int)+1,true,fun k=>!(Pg.withF (fun _=>false) 10 10 k),0,-1⟩:=by
   rw[Pg.readPart,if_pos rfl,Pg.readPlace,if_neg (by rw[hb'];decide),if_pos hb']
  rw[hP]at hn ⊢;simp only at hn ⊢;have hm:n=1:=by omega
  subst hm;refine Or.inl ⟨by rw[hd];rfl,fun b _=>?_⟩;show(!Pg.withF (fun _=>false) 10 10 b)=(b != 10);rw[q4n];by_cases h:b=10
  ·subst h;rfl
  ·have:¬(b:Int)=10:=by omega
   simp[h,this]
 ·have n91:=q0G e91;have n92:=q0G e92;have n46:=q0G e46;have hP:Pg.readPart (bat s) s.size k 1=⟨(k:Int)+1,true,Pg.withF (fun _=>false) (bat s k) (bat s k),0,-1⟩:=by
   rw[Pg.readPart,if_pos rfl,Pg.readPlace,if_neg (by rw[hb];exact n91),if_neg (by rw[hb];exact n46),if_neg (by rw[hb];exact n92)]
  rw[hP]at hn ⊢;simp only at hn ⊢;have hm:n=1:=by omega
  subst hm;have n40:c≠40:=fun e=>by
   subst e;rw[hb]at h1;exact absurd h1 (by decide)
  refine Or.inr (Or.inl ⟨c,c.toNat,[],by rw[hd];rfl,e46,e91,n40,fun r'=>?_,fun b _=>?_⟩)
  ·rw[hd];simp[Rf.one,e92]
  ·rw[hb];exact q4n b
theorem y1U (s:ByteArray) (k n:Nat) (_c:UInt8) (_r:List UInt8) (hw:IsCountW ((s.data.toList.drop k).take n) (Pg.readPart (bat s) s.size k 8).mo):LeW ((s.data.toList.drop k).take n) (Pg.digitValue (bat s ((k:Int)+1))):=by
 have key:∀(x:UInt8) (r':List UInt8),(s.data.toList.drop k).take n=123::x::r'->48<=(x.toNat:Int)->(x.toNat:Int)<=57->LeW ((s.data.toList.drop k).take n) (Pg.digitValue (bat s ((k:Int)+1))):=fun x r' he h1 h2=>by
  refine⟨x,r',he,h1,h2,?_⟩;have hx:(s.data.toList.drop k)[1]?=some x:=by
   have h3:((s.data.toList.drop k).take n)[1]?=some x:=by rw[he];rfl
   rw[List.getElem?_take]at h3;split at h3
   ·exact h3
   ·cases h3
  rw[y0X rfl,at_,hx];simp only;rw[Pg.digitValue,if_pos ⟨h1,h2⟩]
 rcases hw with ⟨x,he,h1,h2,_⟩|⟨x,z,he,h1,h2,_⟩
 ·exact key x _ he h1 h2
 ·exact key x _ he h1 h2
structure Tq where
 t:Tk
 f:Nat->Bool
 le:Int
def TqOK (q:Tq):Prop:=TkOK q.t/\(q.t.kd=1->PlaceSet q.t.w q.f)/\(q.t.kd=8->LeW q.t.w q.le)
def SameP (s:ByteArray) (p:Pg.Pt) (q:Tq):Prop:=p.kd=q.t.kd/\p.mo=q.t.mo/\p.f=q.f/\(p.kd=8->Pg.digitValue (bat s (p.pl+1))=q.le)
inductive Both {α β:Type} (R:α->β->Prop):List α->List β->Prop
 |nil:Both R [] []
 |cons {a:α}{b:β}{l:List α}{m:List β} (h:R a b) (t:Both R l m):Both R (a::l) (b::m)
theorem y1u (s:ByteArray):∀(u k:Nat) (bf op:Int) (acc:List Pg.Pt),s.size<u+k->k<=s.size->(Pg.partsFrom (bat s) s.size u bf op k acc).ok=true ->
  ∃ps qs,(Pg.partsFrom (bat s) s.size u bf op k acc).ps=acc++ps/\txt (qs.map Tq.t)=s.data.toList.drop k/\Val (qs.map Tq.t) bf op/\(∀q∈qs,TqOK q)/\Both (SameP s) ps qs:=by
 intro u
 induction u with
 |zero=>intro k bf op acc h1 h2;omega
 |succ u ih=>
  intro k bf op acc hu hk hok;rcases hd:s.data.toList.drop k with _|⟨c,r⟩
  ·have hks:k=s.size:=by
    have:s.size<=k:=by simpa using hd
    omega
   have hge:¬(k:Int)<(s.size:Int):=by omega
   rw[Pg.partsFrom,if_neg hge]at hok ⊢;exact⟨[],[],by simp,rfl,by simpa[Val]using hok,by simp,Both.nil⟩
  ·have hlt:=q0T hd;have hlti:(k:Int)<(s.size:Int):=by omega
   rw[Pg.partsFrom,if_pos hlti]at hok ⊢;cases hc:Pg.canStand (Pg.kindOf (bat s k)) bf op
   ·rw[hc]at hok;cases hok
   rw[hc]at hok;simp only[if_true]at hok ⊢;cases hp:(Pg.readPart (bat s) s.size k (Pg.kindOf (bat s k))).ok
   ·rw[hp]at hok;cases hok
   rw[hp]at hok;simp only[if_true]at hok ⊢;have h0:Pg.kindOf (bat s k)≠0:=by
    intro e;rw[e]at hc;simp[Pg.canStand]at hc
   obtain⟨n,n1,n2,n3,n4⟩:=y3j s k c r hd h0 hp;have hn3:=n3;rw[n3]at hok ⊢;obtain⟨ps,qs,g1,g2,g3,g4,g5⟩:=ih (k+n) _ _ _ (by omega) n2 hok;refine⟨_::ps,⟨⟨(s.data.toList.drop k).take n,Pg.kindOf (bat s k),(Pg.readPart (bat s) s.size k (Pg.kindOf (bat s k))).mo⟩,(Pg.readPart (bat s) s.size k (Pg.kindOf (bat s k))).f,Pg.digitValue (bat s ((k:Int)+1))⟩::qs,by rw[g1,List.append_assoc];rfl,?_,⟨n4,hc,g3⟩,?_,Both.cons ⟨rfl,rfl,rfl,fun _=>rfl⟩ g5⟩
   ·rw[List.map_cons,q0P,g2,<-hd,<-q0n,List.take_append_drop]
   ·intro q hq;rcases List.mem_cons.1 hq with rfl|h
    ·refine⟨n4,fun h1=>?_,fun h8=>?_⟩
     ·simp only at h1 ⊢;rw[h1]at hp hn3 ⊢;exact y0j s k n c r hd h1 hp hn3 n2
     ·simp only at h8 ⊢;have hw:=(q8b n4 h8).2;simp only at hw;rw[h8]at hw;exact y1U s k n c r hw
    ·exact g4 q h
def Pp:Nat->Nat->List Tq->Rx->Prop
 |0,_,_,_=>False
 |f+1,0,ts,e=>(∃q,ts=[q]/\TqOK q/\q.t.kd=1/\e=.lit q.f) \/
   (∃a inn b e0,ts=a::(inn++[b])/\TqOK a/\a.t.kd=2/\TqOK b/\b.t.kd=3/\Pp f 2 inn e0/\e=e0.nz) \/
   (∃q t e0,ts=q++[t]/\Pp f 0 q e0/\TqOK t/\isSuf t.t/\e=(Rx.suf t.t.kd t.le.toNat t.t.mo.toNat e0).nz)
 |f+1,1,ts,e=>∃L:List (List Tq × Rx),ts=(L.map (·.1)).flatten/\(∀x∈L,Pp f 0 x.1 x.2)/\e=Rx.rowOf (L.map (·.2))
 |f+1,_,ts,e=>Pp f 1 ts e\/∃r b q e1 e2,ts=r++b::q/\TqOK b/\b.t.kd=4/\Pp f 1 r e1/\Pp f 2 q e2/\e=.alt e1 e2
theorem q4Y:∀(f k:Nat) (ts:List Tq) (e:Rx),Pp f k ts e->Pp (f+1) k ts e:=by
 intro f
 induction f with
 |zero=>intro k ts e h;exact absurd h (by simp[Pp])
 |succ f ih=>
  intro k ts e h;rcases k with _|_|k
  ·unfold Pp at h ⊢;rcases h with h|⟨a,inn,b,e0,h1,h2,h3,h4,h5,h6,h7⟩|⟨q,t,e0,h1,h2,h3⟩
   ·exact Or.inl h
   ·exact Or.inr (Or.inl ⟨a,inn,b,e0,h1,h2,h3,h4,h5,ih _ _ _ h6,h7⟩)
   ·exact Or.inr (Or.inr ⟨q,t,e0,h1,ih _ _ _ h2,h3⟩)
  ·unfold Pp at h ⊢;obtain⟨L,h1,h2,h3⟩:=h;exact⟨L,h1,fun x hx=>ih _ _ _ (h2 x hx),h3⟩
  ·unfold Pp at h ⊢;rcases h with h|⟨r,b,q,e1,e2,h1,h2,h3,h4,h5,h6⟩
   ·exact Or.inl (ih _ _ _ h)
   ·exact Or.inr ⟨r,b,q,e1,e2,h1,h2,h3,ih _ _ _ h4,ih _ _ _ h5,h6⟩
variable {ts : List Tq}{f g k n : Nat}{e : Rx}
theorem q8y (h:Pp f k ts e) (hfg:f<=g):Pp g k ts e:=by
 induction g with
 |zero=>
   have:f=0:=by omega
   subst this;exact h
 |succ g ih=>
  by_cases e:f=g+1
  ·subst e;exact h
  ·exact q4Y _ _ _ _ (ih (by omega))
variable {e2 : Rx}
theorem y2f {p r:List Tq}{e1:Rx} (h1:Pp f 0 p e1) (h2:Pp f 2 r e2):∃e,Pp (f+2) 2 (p++r) e:=by
 have row:∀(f:Nat) (r:List Tq) (e2:Rx),Pp f 0 p e1->Pp f 1 r e2->∃e,Pp (f+1) 1 (p++r) e:=fun f r e2 h1 h2=>by
  rcases f with _|f
  ·exact absurd h1 (by simp[Pp])
  obtain⟨L,g1,g2,_⟩:=h2;refine⟨_,(p,e1)::L,by rw[g1];simp,fun x hx=>?_,rfl⟩;rcases List.mem_cons.1 hx with rfl|hx
  ·exact h1
  ·exact q4Y _ _ _ _ (g2 x hx)
 rcases f with _|f
 ·exact absurd h1 (by simp[Pp])
 rcases h2 with h|⟨r1,b,q,e3,e4,k1,k2,k3,k4,k5,_⟩
 ·obtain⟨e,he⟩:=row (f+1) r e2 h1 (q4Y _ _ _ _ h);exact⟨e,Or.inl he⟩
 ·obtain⟨e,he⟩:=row (f+1) r1 e3 h1 (q4Y _ _ _ _ k4);exact⟨_,Or.inr ⟨p++r1,b,q,e,e4,by rw[k1];simp,k2,k3,he,q8y k5 (by omega),rfl⟩⟩
theorem q2x {a b:List Tk} (h:ts.map Tq.t=a++b):∃x y,ts=x++y/\x.map Tq.t=a/\y.map Tq.t=b:=by
 refine⟨ts.take a.length,ts.drop a.length,(List.take_append_drop _ _).symm,?_,?_⟩
 ·rw[List.map_take,h,List.take_left'];rfl
 ·rw[List.map_drop,h,List.drop_left'];rfl
theorem y2e:∀(f:Nat) (g:Bool) (ts:List Tq) (V:Int),(∀q∈ts,TqOK q)->Is f g (ts.map Tq.t) V->∃F e,Pp F (if g then 2 else 0) ts e:=by
 intro f
 induction f with
 |zero=>intro g ts V _ h;exact absurd h (by simp[Is])
 |succ f ih=>
  intro g ts V hq h;cases g
  ·unfold Is at h;rcases h with ⟨t,h1,h2,h3,_⟩|⟨a,inn,b,h1,h2,h3,h4,h5,h6⟩|⟨q,t,A,h1,h2,h3,h4,_⟩
   ·rcases ts with _|⟨q,_|⟨q2,ts⟩⟩
    ·simp at h1
    ·simp at h1;exact⟨1,.lit q.f,Or.inl ⟨q,rfl,hq q (by simp),by rw[h1];exact h3,rfl⟩⟩
    ·simp at h1
   ·obtain⟨x,y,e1,e2,e3⟩:=q2x (a:=[a]) (b:=inn++[b]) (by rw[h1];rfl);obtain⟨y1,y2,e4,e5,e6⟩:=q2x e3;rcases x with _|⟨x,_|⟨x2,xs⟩⟩
    ·simp at e2
    rotate_left
    ·simp at e2
    rcases y2 with _|⟨z,_|⟨z2,zs⟩⟩
    ·simp at e6
    rotate_left
    ·simp at e6
    simp at e2 e6;obtain⟨F,e,hP⟩:=ih true y1 V (fun q hx=>hq q (by rw[e1,e4];simp[hx])) (by rw[e5];exact h6);exact⟨F+1,e.nz,Or.inr (Or.inl ⟨x,y1,z,e,by rw[e1,e4];rfl,hq x (by rw[e1];simp),by rw[e2];exact h3,hq z (by rw[e1,e4];simp),by rw[e6];exact h5,hP,rfl⟩)⟩
   ·obtain⟨x,y,e1,e2,e3⟩:=q2x h1;rcases y with _|⟨z,_|⟨z2,zs⟩⟩
    ·simp at e3
    rotate_left
    ·simp at e3
    simp at e3;obtain⟨F,e,hP⟩:=ih false x A (fun q hx=>hq q (by rw[e1];simp[hx])) (by rw[e2];exact h2);exact⟨F+1,_,Or.inr (Or.inr ⟨x,z,e,e1,hP,hq z (by rw[e1];simp),by rw[e3];exact h4,rfl⟩)⟩
  ·unfold Is at h;rcases h with ⟨h1,_⟩|⟨t,r,h1,h2,h3,h4⟩|⟨p,r,A,B,h1,h2,h3,_,_⟩
   ·have:ts=[]:=by simpa using h1
    subst this;exact⟨2,Rx.rowOf [],Or.inl ⟨[],rfl,by simp,rfl⟩⟩
   ·obtain⟨x,y,e1,e2,e3⟩:=q2x (a:=[t]) (b:=r) (by rw[h1];rfl);rcases x with _|⟨x,_|⟨x2,xs⟩⟩
    ·simp at e2
    rotate_left
    ·simp at e2
    simp at e2;obtain⟨F,e,hP⟩:=ih true y V (fun q hx=>hq q (by rw[e1];simp[hx])) (by rw[e3];exact h4);exact⟨F+2,_,Or.inr ⟨[],x,y,Rx.rowOf [],e,by rw[e1];rfl,hq x (by rw[e1];simp),by rw[e2];exact h3,⟨[],rfl,by simp,rfl⟩,q4Y _ _ _ _ hP,rfl⟩⟩
   ·obtain⟨x,y,e1,e2,e3⟩:=q2x h1;obtain⟨F1,f1,hP1⟩:=ih false x A (fun q hx=>hq q (by rw[e1];simp[hx])) (by rw[e2];exact h2);obtain⟨F2,f2,hP2⟩:=ih true y B (fun q hx=>hq q (by rw[e1];simp[hx])) (by rw[e3];exact h3);obtain⟨e,he⟩:=y2f (q8y hP1 (Nat.le_max_left F1 F2)) (q8y hP2 (Nat.le_max_right F1 F2));exact⟨_,e,by rw[e1];exact he⟩
theorem q9V (s:ByteArray) (h:(Pg.readParts (bat s) s.size).ok=true):∃qs f e,txt (qs.map Tq.t)=s.data.toList/\(∀q∈qs,TqOK q)/\Both (SameP s) (Pg.readParts (bat s) s.size).ps qs/\Pp f 2 qs e:=by
 unfold Pg.readParts at h ⊢;obtain⟨ps,qs,h1,h2,h3,h4,h5⟩:=y1u s ((s.size:Int).toNat+1) 0 0 0 [] (by omega) (by omega) h;have hns:∀t r,qs.map Tq.t=t::r->¬isSuf t:=by
  intro t r e hs;rw[e]at h3;have:=h3.2.1;unfold isSuf at hs;simp[Pg.canStand,Pg.endsPiece,Pg.isSuffix]at this;rcases hs with h|h|h|h<;>simp[h]at this
 obtain⟨f,inn,rest,V,g1,g2,g3⟩:=parse (qs.map Tq.t).length (qs.map Tq.t) 0 0 (Nat.le_refl _) (Int.le_refl _) h3 hns;have hrest:rest=[]:=by
  rcases g3 with ⟨h,_⟩|⟨b,r,_,_,_,h,_⟩
  ·exact h
  ·omega
 rw[hrest,List.append_nil]at g1;obtain⟨F,e,hP⟩:=y2e f true qs V h4 (by rw[g1];exact g2);have h1':(Pg.partsFrom (bat s) (s.size:Int) ((s.size:Int).toNat+1) 0 0 0 []).ps=ps:=by
  have:=h1;rw[List.nil_append]at this;exact this
 refine⟨qs,F,e,by rw[h2];rfl,h4,?_,hP⟩;rw[h1'];exact h5
theorem y3m {t:Tk} (h3:TkOK t) (h4:isSuf t) (le:Nat) (e0:Rx):((Rx.suf t.kd le t.mo.toNat e0).sz:Int)=if t.kd=8 then (e0.sz:Int)*t.mo else e0.sz:=by
 unfold Rx.suf;unfold isSuf at h4;by_cases h8:t.kd=8
 ·rw[if_neg (by omega),if_neg (by omega),if_neg (by omega),if_pos h8,Rx.copies_sz];have:=(q8b h3 h8).1;rw[Int.natCast_mul,Int.mul_comm,Int.toNat_of_nonneg this]
 ·rw[if_neg h8];by_cases h5:t.kd=5
  ·rw[if_pos h5];rfl
  ·rw[if_neg h5];by_cases h6:t.kd=6
   ·rw[if_pos h6];rfl
   ·rw[if_neg h6,if_pos (by omega)];rfl
theorem q3E:∀(f k:Nat) (ts:List Tq) (e:Rx),Pp f k ts e->(∀q∈ts,TqOK q)/\∃F,(k=0->Is F false (ts.map Tq.t) e.sz/\∃q r,ts=q::r/\(q.t.kd=1\/q.t.kd=2))/\(k=1->∀G r V,Is G true r V->(∀t r',r=t::r'->¬isSuf t)->∃F',Is F' true (ts.map Tq.t++r) (e.sz+V))/\(2<=k->Is F true (ts.map Tq.t) e.sz):=by
 intro f
 induction f with
 |zero=>intro k ts e h;exact absurd h (by simp[Pp])
 |succ f ih=>
  intro k ts e h;rcases k with _|_|k
  ·unfold Pp at h;rcases h with ⟨q,rfl,h2,h3,rfl⟩|⟨a,inn,b,e0,rfl,h2,h3,h4,h5,h6,rfl⟩|⟨q,t,e0,rfl,h2,h3,h4,rfl⟩
   ·exact⟨by simpa using h2,1,fun _=>⟨Or.inl ⟨q.t,rfl,h2.1,h3,rfl⟩,q,[],rfl,Or.inl h3⟩,(fun h=>by omega),fun h=>by omega⟩
   ·obtain⟨k1,F,_,_,k3⟩:=ih 2 inn e0 h6;refine⟨fun q hq=>?_,F+1,fun _=>⟨Or.inr (Or.inl ⟨a.t,inn.map Tq.t,b.t,by simp,h2.1,h3,h4.1,h5,by rw[Rx.nz_sz];exact k3 (by omega)⟩),a,_,rfl,Or.inr h3⟩,(fun h=>by omega),fun h=>by omega⟩;simp only[List.mem_cons,List.mem_append,List.not_mem_nil,or_false]at hq;rcases hq with rfl|hq|rfl
    ·exact h2
    ·exact k1 q hq
    ·exact h4
   ·obtain⟨k1,F,k2,_,_⟩:=ih 0 q e0 h2;obtain⟨k2,q0,r0,k4,k5⟩:=k2 rfl;refine⟨fun x hx=>?_,F+1,fun _=>⟨Or.inr (Or.inr ⟨q.map Tq.t,t.t,_,by simp,k2,h3.1,h4,?_⟩),q0,r0++[t],by rw[k4];rfl,k5⟩,(fun h=>by omega),fun h=>by omega⟩
    ·rcases List.mem_append.1 hx with h|h
     ·exact k1 x h
     ·rw[List.mem_singleton.1 h];exact h3
    ·rw[Rx.nz_sz];exact y3m h3.1 h4 _ _
  ·unfold Pp at h;obtain⟨L,rfl,h2,rfl⟩:=h;refine⟨fun q hq=>?_,0,(fun h=>by omega),fun _=>?_,fun h=>by omega⟩
   ·obtain⟨l,hl,hql⟩:=List.mem_flatten.1 hq;obtain⟨x,hx,rfl⟩:=List.mem_map.1 hl;exact(ih 0 x.1 x.2 (h2 x hx)).1 q hql
   ·intro G r V hG hns
    induction L with
    |nil=>exact⟨G,by simpa[Rx.rowOf,Rx.sz]using hG⟩
    |cons x L ihL=>
     obtain⟨F',hF'⟩:=ihL (fun y hy=>h2 y (by simp[hy]));obtain⟨_,F1,k2,_,_⟩:=ih 0 x.1 x.2 (h2 x (by simp));obtain⟨k2,_⟩:=k2 rfl;refine⟨max F1 F'+1,?_⟩;rw[Rx.rowOf_sz];rw[Rx.rowOf_sz]at hF';refine Or.inr (Or.inr ⟨x.1.map Tq.t,_,_,_,?_,q6J k2 (Nat.le_max_left _ _),q6J hF' (Nat.le_max_right _ _),?_,?_⟩)
     ·simp
     ·simp;omega
     ·intro t r' he;rcases L with _|⟨y,L⟩
      ·exact hns t r' (by simpa using he)
      ·obtain⟨_,_,k3,_,_⟩:=ih 0 y.1 y.2 (h2 y (by simp));obtain⟨_,q,r2,k4,k5⟩:=k3 rfl;have:q.t=t:=by
        rw[List.map_cons,List.flatten_cons]at he;rw[show(y.1)=q::r2 from k4]at he;simp at he;exact he.1
       rw[<-this];unfold isSuf;omega
  ·unfold Pp at h;rcases h with h|⟨r,b,q,e1,e2,rfl,h2,h3,h4,h5,rfl⟩
   ·obtain⟨k1,F,_,k2,_⟩:=ih 1 ts e h;obtain⟨F',hF⟩:=k2 rfl 1 [] 0 (Or.inl ⟨rfl,rfl⟩) (by simp);exact⟨k1,F',(fun h=>by omega),(fun h=>by omega),fun _=>by simpa using hF⟩
   ·obtain⟨k1,F,_,k2,_⟩:=ih 1 r e1 h4;obtain⟨k3,F2,_,_,k4⟩:=ih 2 q e2 h5;have hb:Is (F2+1) true (b.t::q.map Tq.t) e2.sz:=Or.inr (Or.inl ⟨b.t,_,rfl,h2.1,h3,k4 (by omega)⟩);obtain⟨F',hF⟩:=k2 rfl _ _ _ hb (by
     intro t r' he;cases he;unfold isSuf;omega)
    refine⟨fun x hx=>?_,F',(fun h=>by omega),(fun h=>by omega),fun _=>?_⟩
    ·simp only[List.mem_append,List.mem_cons]at hx;rcases hx with h|rfl|h
     ·exact k1 x h
     ·exact h2
     ·exact k3 x h
    ·have:((Rx.alt e1 e2).sz:Int)=(e1.sz:Int)+(e2.sz:Int):=by simp[Rx.sz]
     rw[this,List.map_append,List.map_cons];exact hF
def rowK:List Int->Int->Nat->Nat
 |[],_,i=>i
 |k::ks,op,i=>if k=4/\op=0 then i else rowK ks (op+Pg.opn k) (i+1)
def atomK:List Int->Int->Nat->Nat
 |[],_,i=>i
 |k::ks,op,i=>if op+Pg.opn k=0 then i+1 else atomK ks (op+Pg.opn k) (i+1)
def kds (ts:List Tq):List Int:=ts.map fun q=>q.t.kd
theorem q2e (a b:List Tq):kds (a++b)=kds a++kds b:=by simp[kds]
theorem q6q (a:List Tq):(kds a).length=a.length:=by simp[kds]
theorem y2H {k:Int} (h:k=5\/k=6\/k=7\/k=8):Pg.opn k=0:=by unfold Pg.opn;rw[if_neg (by omega),if_neg (by omega)]
theorem q8W:∀(f k:Nat) (ts:List Tq) (e:Rx),Pp f k ts e ->
  (∀(op:Int) (i:Nat) (rest:List Int),1<=op->atomK (kds ts++rest) op i=atomK rest op (i+ts.length)) /\
  (∀(op:Int) (i:Nat) (rest:List Int),1<=op\/(op=0/\k<=1)->rowK (kds ts++rest) op i=rowK rest op (i+ts.length)) /\
  (k=0->∃m,1<=m/\m<=ts.length/\(∀i rest,atomK (kds ts++rest) 0 i=i+m)/\∀q∈ts.drop m,isSuf q.t):=by
 intro f
 induction f with
 |zero=>intro k ts e h;exact absurd h (by simp[Pp])
 |succ f ih=>
  intro k ts e h;rcases k with _|_|k
  ·unfold Pp at h;rcases h with ⟨q,rfl,h2,h3,rfl⟩|⟨a,inn,b,e0,rfl,h2,h3,h4,h5,h6,rfl⟩|⟨q,t,e0,rfl,h2,h3,h4,rfl⟩
   ·have ho:Pg.opn q.t.kd=0:=by rw[h3];rfl
    refine⟨fun op i rest hop=>?_,fun op i rest hop=>?_,fun _=>⟨1,by omega,by simp,fun i rest=>?_,by simp⟩⟩
    ·simp only[kds,List.map_cons,List.map_nil,List.cons_append,List.nil_append,atomK,ho,Int.add_zero];rw[if_neg (by omega)];rfl
    ·simp only[kds,List.map_cons,List.map_nil,List.cons_append,List.nil_append,rowK,ho,Int.add_zero];rw[if_neg (by omega)];rfl
    ·simp[kds,atomK,ho]
   ·obtain⟨i1,i2,_⟩:=ih 2 inn e0 h6;have ha:Pg.opn a.t.kd=1:=by rw[h3];rfl
    have hb:Pg.opn b.t.kd=-1:=by rw[h5];rfl
    have hk:kds (a::(inn++[b]))=a.t.kd::(kds inn++[b.t.kd]):=by simp[kds]
    have hl:(a::(inn++[b])).length=inn.length+2:=by simp
    refine⟨fun op i rest hop=>?_,fun op i rest hop=>?_,fun _=>⟨inn.length+2,by omega,by simp,fun i rest=>?_,fun q hq=>?_⟩⟩
    ·rw[hk,List.cons_append,atomK,ha,if_neg (by omega),List.append_assoc,i1 _ _ _ (by omega),List.singleton_append,atomK,hb,if_neg (by omega),hl];congr 1<;>omega
    ·rw[hk,List.cons_append,rowK,ha,if_neg (by omega),List.append_assoc,i2 _ _ _ (Or.inl (by omega)),List.singleton_append,rowK,hb,if_neg (by omega),hl];congr 1<;>omega
    ·rw[hk,List.cons_append,atomK,ha,if_neg (by omega),List.append_assoc,i1 _ _ _ (by omega),List.singleton_append,atomK,hb,if_pos (by omega)];omega
    ·rw[List.drop_of_length_le (by rw[hl];omega)]at hq;cases hq
   ·obtain⟨i1,i2,i3⟩:=ih 0 q e0 h2;obtain⟨m,m1,m2,m3,m4⟩:=i3 rfl;have ho:Pg.opn t.t.kd=0:=y2H (by unfold isSuf at h4;omega);have h4':t.t.kd≠4:=by unfold isSuf at h4;omega
    have hk:kds (q++[t])=kds q++[t.t.kd]:=by simp[kds]
    have hl:(q++[t]).length=q.length+1:=by simp
    refine⟨fun op i rest hop=>?_,fun op i rest hop=>?_,fun _=>⟨m,m1,by omega,fun i rest=>?_,fun x hx=>?_⟩⟩
    ·rw[hk,List.append_assoc,i1 _ _ _ hop,List.singleton_append,atomK,ho,if_neg (by omega),hl];congr 1;omega
    ·rw[hk,List.append_assoc,i2 _ _ _ hop,List.singleton_append,rowK,ho,if_neg (by omega),hl];congr 1;omega
    ·rw[hk,List.append_assoc];exact m3 _ _
    ·rw[List.drop_append_of_le_length m2]at hx;rcases List.mem_append.1 hx with h|h
     ·exact m4 x h
     ·rw[List.mem_singleton.1 h];exact h4
  ·unfold Pp at h;obtain⟨L,rfl,h2,rfl⟩:=h;refine⟨fun op i rest hop=>?_,fun op i rest hop=>?_,fun h=>by omega⟩
   ·induction L generalizing i with
    |nil=>simp[kds]
    |cons x L ihL=>
     obtain⟨i1,_,_⟩:=ih 0 x.1 x.2 (h2 x (by simp));have:=ihL (fun y hy=>h2 y (by simp[hy])) (i+x.1.length);rw[List.map_cons,List.flatten_cons,q2e,List.append_assoc,i1 _ _ _ hop,this,List.length_append];congr 1;omega
   ·induction L generalizing i with
    |nil=>simp[kds]
    |cons x L ihL=>
     obtain⟨_,i2,_⟩:=ih 0 x.1 x.2 (h2 x (by simp));have:=ihL (fun y hy=>h2 y (by simp[hy])) (i+x.1.length);rw[List.map_cons,List.flatten_cons,q2e,List.append_assoc,i2 _ _ _ (by omega),this,List.length_append];congr 1;omega
  ·unfold Pp at h;rcases h with h|⟨r,b,q,e1,e2,rfl,h2,h3,h4,h5,rfl⟩
   ·obtain⟨i1,i2,_⟩:=ih 1 ts e h;exact⟨i1,fun op i rest hop=>i2 op i rest (by omega),fun h=>by omega⟩
   ·obtain⟨i1,i2,_⟩:=ih 1 r e1 h4;obtain⟨j1,j2,_⟩:=ih 2 q e2 h5;have ho:Pg.opn b.t.kd=0:=by rw[h3];rfl
    have hk:kds (r++b::q)=kds r++(b.t.kd::kds q):=by simp[kds]
    have hl:(r++b::q).length=r.length+1+q.length:=by simp;omega
    refine⟨fun op i rest hop=>?_,fun op i rest hop=>?_,fun h=>by omega⟩
    ·rw[hk,List.append_assoc,i1 _ _ _ hop,List.cons_append,atomK,ho,if_neg (by omega),Int.add_zero,j1 _ _ _ hop,hl];congr 1;omega
    ·rw[hk,List.append_assoc,i2 _ _ _ (by omega),List.cons_append,rowK,ho,if_neg (by omega),Int.add_zero,j2 _ _ _ (by omega),hl];congr 1;omega
def Sm (p:Pg.Pt) (q:Tq):Prop:=p.kd=q.t.kd/\p.mo=q.t.mo/\p.f=q.f/\(p.kd=8->p.le=q.le)
theorem Both.len {α β:Type}{R:α->β->Prop}{l:List α}{m:List β} (h:Both R l m):l.length=m.length:=by
 induction h with
 |nil=>rfl
 |cons h t ih=>simp[ih]
theorem Both.split {α β:Type}{R:α->β->Prop}:∀(a:List β) (b:List β) (l:List α),Both R l (a++b)->Both R (l.take a.length) a/\Both R (l.drop a.length) b
 |[],b,l,h=>⟨by simpa using Both.nil,by simpa using h⟩
 |x::a,b,l,h=>by
  cases h with
  |cons h t=>
   obtain⟨h1,h2⟩:=Both.split a b _ t;exact⟨by simpa using Both.cons h h1,by simpa using h2⟩
theorem Both.kds {ps:List Pg.Pt}{ts:List Tq} (h:Both Sm ps ts):ps.map (fun p=>p.kd)=kds ts:=by
 induction h with
 |nil=>rfl
 |cons h t ih=>
  simp only[List.map_cons,ih,Go.Proofs.YtoaaklhpmhjhkaaGreat.kds];rw[h.1]
theorem Both.two {ps:List Pg.Pt} (h:Both Sm ps ts):ps.map (fun p=>(p.kd,p.mo))=(ts.map Tq.t).map (fun t=>(t.kd,t.mo)):=by
 induction h with
 |nil=>rfl
 |cons h t ih=>simp only[List.map_cons,ih];rw[h.1,h.2.1]
theorem q8t {ps:List Pg.Pt} (h:Pp f 0 ts e) (hb:Both Sm ps ts):Pg.countPlaces ps=Pg.capped e.sz:=by
 obtain⟨_,F,k2,_,_⟩:=q3E f 0 ts e h;obtain⟨hI,_⟩:=k2 rfl;obtain⟨hV,hF,_⟩:=machine F false (ts.map Tq.t) e.sz hI;have e1:=hF rfl ⟨0,0,[]⟩ (by simp) (by simp);rw[Pg.countPlaces,q3P ps ((ts.map Tq.t).map ptOf) (by rw[hb.two];simp[ptOf]),e1];simp only;have h0:Pg.capped (0+0)=0:=rfl;have h1:=q2K (a:=(e.sz:Int)) (b:=0) hV (by omega);rw[h0,show(0:Int)+Pg.capped (e.sz:Int)=Pg.capped (e.sz:Int)+0 by omega,h1];simp
theorem q8u:Pg.capped (n:Int)=0<->n=0:=by rw[q1P];split<;>omega
theorem q8A (s:ByteArray) (h:(Pg.readParts (bat s) s.size).ok=true):∃e qs f,txt (qs.map Tq.t)=s.data.toList/\(∀q∈qs,TqOK q)/\Both (SameP s) (Pg.readParts (bat s) s.size).ps qs/\Pp f 2 qs e:=by
 obtain⟨qs,f,e,h1,h2,h3,h4⟩:=q9V s h;exact⟨e,qs,f,h1,h2,h3,h4⟩
open Classical in
noncomputable def rxOf (s:ByteArray):Rx:=if h:(Pg.readParts (bat s) s.size).ok=true then Classical.choose (q8A s h) else .eps
theorem q3g (s:ByteArray) (h:(Pg.readParts (bat s) s.size).ok=true):∃qs f,txt (qs.map Tq.t)=s.data.toList/\(∀q∈qs,TqOK q)/\Both (SameP s) (Pg.readParts (bat s) s.size).ps qs/\Pp f 2 qs (rxOf s):=by
 have:=Classical.choose_spec (q8A s h);unfold rxOf;rw[dif_pos h];exact this
theorem Both.twoP {s:ByteArray}{ps:List Pg.Pt} (h:Both (SameP s) ps ts):ps.map (fun p=>(p.kd,p.mo))=(ts.map Tq.t).map (fun t=>(t.kd,t.mo)):=by
 induction h with
 |nil=>rfl
 |cons h t ih=>simp only[List.map_cons,ih];rw[h.1,h.2.1]
theorem q6C {ps:List Pg.Pt} (h:Pp f 2 ts e) (hb:ps.map (fun p=>(p.kd,p.mo))=(ts.map Tq.t).map (fun t=>(t.kd,t.mo))):Pg.countPlaces ps=Pg.capped e.sz:=by
 obtain⟨_,F,_,_,k2⟩:=q3E f 2 ts e h;have hI:=k2 (Nat.le_refl _);obtain⟨hV,_,hT⟩:=machine F true (ts.map Tq.t) e.sz hI;obtain⟨ah,la,e1,_,_,e4⟩:=hT rfl ⟨0,0,[]⟩ (by simp) (by simp);rw[Pg.countPlaces,q3P ps ((ts.map Tq.t).map ptOf) (by rw[hb];simp[ptOf]),e1];simp only;rw[e4];simp
theorem q3i (s:ByteArray) (h:(Pg.readParts (bat s) s.size).ok=true):Pg.countPlaces (Pg.readParts (bat s) s.size).ps=Pg.capped (rxOf s).sz:=by
 obtain⟨qs,f,_,_,h3,h4⟩:=q3g s h;exact q6C h4 h3.twoP
def netN (es:Nat->Rx):Nat->Nat
 |0=>0
 |k+1=>netN es k+(es k).sz
theorem q0M (es:Nat->Rx) {a b:Nat} (h:a<=b):netN es a<=netN es b:=by
 induction b with
 |zero=>
   have:a=0:=by omega
   subst this;exact Nat.le_refl _
 |succ b ih=>
  by_cases e:a=b+1
  ·subst e;exact Nat.le_refl _
  ·have:=ih (by omega);simp only[netN];omega
theorem q6i (es:Nat->Rx) (u:Nat->Int):∀n,(∀i,i<n->u i=Pg.capped (es i).sz)->¬96<sumTo u n->sumTo u n=(netN es n:Int)/\netN es n<=96:=by
 intro n hu hs;have h2:=(q7G (u:=u) (v:=fun i=>((es i).sz:Int)) n (fun i hi=>⟨by omega,hu i hi⟩));have h3:∀m,sumTo (fun i=>((es i).sz:Int)) m=(netN es m:Int):=by
  intro m
  induction m with
  |zero=>rfl
  |succ m ih=>simp only[sumTo,netN,ih];omega
 rw[h3]at h2;have h4:¬96<(netN es n:Int):=fun h=>hs (h2.1.2 h)
 have h5:=h2.2 h4;exact⟨h5,by omega⟩
end Go.Proofs.YtoaaklhpmhjhkaaGreat
