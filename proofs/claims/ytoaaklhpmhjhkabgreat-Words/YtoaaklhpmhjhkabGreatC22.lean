import Derived.Test.YtoaaklhpmhjhkabGreatC21
set_option maxRecDepth 100000
set_option maxHeartbeats 4000000
set_option linter.all false
namespace Go.Proofs.YtoaaklhpmhjhkabGreat
open Go.RowKit
def Wj (t:Tk):Pg.Pt:=⟨t.kd,0,fun _=>false,0,t.mo,0⟩
theorem WG (n:Int):Pg.capped n=if 96<n then 97 else n:=rfl
theorem U7 {a b:Int} (_ha:0<=a) (hb:0<=b):Pg.capped (Pg.capped a+b)=Pg.capped (a+b):=by
 simp only[WG];repeat' split
 all_goals omega
theorem L9 {a m:Int} (_ha:0<=a) (hm:0<=m):Pg.capped (Pg.capped a*m)=Pg.capped (a*m):=by
 by_cases h:96<a
 ·rw[WG a,if_pos h];by_cases h0:m=0
  ·subst h0;simp
  ·have h1:97*1<=97*m:=Int.mul_le_mul_of_nonneg_left (by omega) (by omega);have h2:97*m<=a*m:=Int.mul_le_mul_of_nonneg_right (by omega) hm;rw[WG,WG,if_pos (by omega),if_pos (by omega)]
 ·rw[WG a,if_neg h]
theorem Wd {a:Int} (ha:0<=a):0<=Pg.capped a:=(Pg.capped_le a ha).1
theorem Pz {t:Tk} (h:VS t) (h8:t.kd=8):0<=t.mo/\VR t.w t.mo:=by
 have hc:VR t.w t.mo:=by
  rcases h with h|h|h|h|h|h|h|h
  all_goals first|(exact absurd h.1 (by omega))|exact h.2
 refine⟨?_,hc⟩;rcases hc with ⟨x,_,h1,h2,h3⟩|⟨x,z,_,_,_,h1,h2,h3⟩<;>omega
theorem UH (a b:List Pg.Pt):∀c,Pg.cRun (a++b) c=Pg.cRun b (Pg.cRun a c):=by
 induction a with
 |nil=>intro c;rfl
 |cons p r ih=>intro c;simp only[List.cons_append,Pg.cRun];exact ih _
theorem machine:∀(f:Nat) (g:Bool) (ts:List Tk) (V:Int),Is f g ts V->0<=V /\
  (g=false->∀c:Pg.C,0<=c.ah->0<=c.la->Pg.cRun (ts.map Wj) c=⟨Pg.capped (c.ah+c.la),Pg.capped V,c.st⟩) /\
  (g=true->∀c:Pg.C,0<=c.ah->0<=c.la->∃ah la,Pg.cRun (ts.map Wj) c=⟨ah,la,c.st⟩/\0<=ah/\0<=la/\Pg.capped (ah+la)=Pg.capped (c.ah+c.la+V)):=by
 intro f
 induction f with
 |zero=>intro g ts V h;exact absurd h (by simp[Is])
 |succ f ih=>
  intro g ts V h;cases g
  ·unfold Is at h;rcases h with ⟨t,rfl,h2,h3,rfl⟩|⟨a,inn,b,rfl,h2,h3,h4,h5,h6⟩|⟨q,t,A,rfl,h2,h3,h4,rfl⟩
   ·refine⟨by omega,fun _ c h1 h2=>?_,fun h=>by cases h⟩;simp only[List.map_cons,List.map_nil,Pg.cRun,Pg.cStep,Wj,h3,if_true];rfl
   ·obtain⟨hV,_,hT⟩:=ih true inn V h6;refine⟨hV,fun _ c c1 c2=>?_,fun h=>by cases h⟩;obtain⟨ah,la,e1,e2,e3,e4⟩:=hT rfl ⟨0,0,Pg.capped (c.ah+c.la)::c.st⟩ (by simp) (by simp);simp only[List.map_cons,List.map_append,List.map_nil,Pg.cRun];have s1:Pg.cStep c (Wj a)=⟨0,0,Pg.capped (c.ah+c.la)::c.st⟩:=by simp[Pg.cStep,Wj,h3]
    rw[s1,UH,e1];simp only[Pg.cRun];have s2:Pg.cStep ⟨ah,la,Pg.capped (c.ah+c.la)::c.st⟩ (Wj b)=⟨Pg.capped (c.ah+c.la),Pg.capped (ah+la),c.st⟩:=by simp[Pg.cStep,Wj,h5]
    rw[s2,e4];simp
   ·obtain⟨hA,hF,_⟩:=ih false q A h2;have hV:0<=(if t.kd=8 then A*t.mo else A):=by
     split
     ·rename_i h8;exact Int.mul_nonneg hA (Pz h3 h8).1
     ·exact hA
    refine⟨hV,fun _ c c1 c2=>?_,fun h=>by cases h⟩;rw[List.map_append,UH,hF rfl c c1 c2];simp only[List.map_cons,List.map_nil,Pg.cRun];by_cases h8:t.kd=8
    ·rw[if_pos h8];simp only[Pg.cStep,Wj,h8];rw[if_neg (by decide),if_neg (by decide),if_neg (by decide),if_neg (by decide),if_pos trivial,L9 hA (Pz h3 h8).1]
    ·rw[if_neg h8];unfold Ym at h4;unfold Pg.cStep;rw[if_neg (show ¬(Wj t).kd=1 by simp only[Wj];omega),if_neg (show ¬(Wj t).kd=2 by simp only[Wj];omega),if_neg (show ¬(Wj t).kd=3 by simp only[Wj];omega),if_neg (show ¬(Wj t).kd=4 by simp only[Wj];omega),if_neg (show ¬(Wj t).kd=8 from h8)]
  ·unfold Is at h;rcases h with ⟨rfl,rfl⟩|⟨t,r,rfl,h2,h3,h4⟩|⟨p,r,A,B,rfl,h2,h3,rfl,h5⟩
   ·refine⟨by omega,(fun h=>by cases h),fun _ c c1 c2=>⟨c.ah,c.la,rfl,c1,c2,by simp⟩⟩
   ·obtain⟨hV,_,hT⟩:=ih true r V h4;refine⟨hV,(fun h=>by cases h),fun _ c c1 c2=>?_⟩;obtain⟨ah,la,e1,e2,e3,e4⟩:=hT rfl ⟨Pg.capped (c.ah+c.la),0,c.st⟩ (Wd (by omega)) (by simp);refine⟨ah,la,?_,e2,e3,?_⟩
    ·simp only[List.map_cons,Pg.cRun];have s1:Pg.cStep c (Wj t)=⟨Pg.capped (c.ah+c.la),0,c.st⟩:=by simp[Pg.cStep,Wj,h3]
     rw[s1,e1]
    ·rw[e4];simp only[Int.add_zero];exact U7 (by omega) hV
   ·obtain⟨hA,hF,_⟩:=ih false p A h2;obtain⟨hB,_,hT⟩:=ih true r B h3;refine⟨by omega,(fun h=>by cases h),fun _ c c1 c2=>?_⟩;obtain⟨ah,la,e1,e2,e3,e4⟩:=hT rfl ⟨Pg.capped (c.ah+c.la),Pg.capped A,c.st⟩ (Wd (by omega)) (Wd hA);refine⟨ah,la,by rw[List.map_append,UH,hF rfl c c1 c2,e1],e2,e3,?_⟩;rw[e4];simp only;have k1:=U7 (a:=c.ah+c.la) (b:=Pg.capped A+B) (by omega) (by have:=Wd hA;omega);have k2:=U7 (a:=A) (b:=c.ah+c.la+B) hA (by omega);rw[show Pg.capped (c.ah+c.la)+Pg.capped A+B=Pg.capped (c.ah+c.la)+(Pg.capped A+B) by omega,k1,show c.ah+c.la+(Pg.capped A+B)=Pg.capped A+(c.ah+c.la+B) by omega,k2];congr 1;omega
theorem Rs {t:Tk} (h:VS t) (h3:t.kd≠3):∃C,C<=t.w.length/\1<=t.w.length/\∀(p:List UInt8) (i v:Nat) (o:Int) (r:List UInt8),p.drop i=t.w++r->Rf.groupFrom p (v+C) i o=Rf.groupFrom p v (i+t.w.length) (Pg.opens t.kd o):=by
 have one:∀(c:UInt8) (p:List UInt8) (i v:Nat) (o:Int) (r:List UInt8),c≠92->c≠91->c≠40->c≠41->p.drop i=c::r->Rf.groupFrom p (v+1) i o=Rf.groupFrom p v (i+1) o:=by
  intro c p i v o r n1 n2 n3 n4 hd;rw[Rf.groupFrom,hd];simp only[if_neg n1,if_neg n2,if_neg n3,if_neg n4]
 rcases h with ⟨hk,h⟩|⟨hk,hw⟩|⟨hk,hw⟩|⟨hk,hw⟩|⟨hk,hw⟩|⟨hk,hw⟩|⟨hk,hw⟩|⟨hk,h⟩
 ·have ho:∀o,Pg.opens t.kd o=o:=fun o=>by simp[Pg.opens,hk]
  rcases h with ⟨c,hw,hs⟩|⟨e,v0,hw,hone⟩|⟨e,hw,hset⟩
  ·refine⟨1,by simp[hw],by simp[hw],fun p i v o r hd=>?_⟩;rw[ho,hw];rw[hw]at hd;unfold WC at hs;exact one c p i v o r (fun e=>hs (by simp[e])) (fun e=>hs (by simp[e])) (fun e=>hs (by simp[e])) (fun e=>hs (by simp[e])) hd
  ·refine⟨1,by simp[hw],by simp[hw],fun p i v o r hd=>?_⟩;rw[ho,hw];rw[hw]at hd;rw[Rf.groupFrom,hd];simp only[List.cons_append];rw[if_pos trivial,hone r];rfl
  ·refine⟨1,by simp[hw],by simp[hw],fun p i v o r hd=>?_⟩;rw[ho,hw];rw[hw]at hd;obtain⟨fa,inn,hs⟩:=hset r i;rw[Rf.groupFrom,hd];simp only[List.cons_append];rw[if_neg (by decide),if_pos trivial,hs];rfl
 ·refine⟨1,by simp[hw],by simp[hw],fun p i v o r hd=>?_⟩;rw[hw]at hd;rw[Rf.groupFrom,hd,hw];simp[Pg.opens,hk]
 ·exact absurd hk h3
 ·refine⟨1,by simp[hw],by simp[hw],fun p i v o r hd=>?_⟩;rw[hw]at hd;rw[show Pg.opens t.kd o=o by simp[Pg.opens,hk],hw];exact one 124 p i v o r (by decide) (by decide) (by decide) (by decide) hd
 ·refine⟨1,by simp[hw],by simp[hw],fun p i v o r hd=>?_⟩;rw[hw]at hd;rw[show Pg.opens t.kd o=o by simp[Pg.opens,hk],hw];exact one 42 p i v o r (by decide) (by decide) (by decide) (by decide) hd
 ·refine⟨1,by simp[hw],by simp[hw],fun p i v o r hd=>?_⟩;rw[hw]at hd;rw[show Pg.opens t.kd o=o by simp[Pg.opens,hk],hw];exact one 43 p i v o r (by decide) (by decide) (by decide) (by decide) hd
 ·refine⟨1,by simp[hw],by simp[hw],fun p i v o r hd=>?_⟩;rw[hw]at hd;rw[show Pg.opens t.kd o=o by simp[Pg.opens,hk],hw];exact one 63 p i v o r (by decide) (by decide) (by decide) (by decide) hd
 ·have ho:∀o,Pg.opens t.kd o=o:=fun o=>by simp[Pg.opens,hk]
  have dig:∀x:UInt8,48<=(x.toNat:Int)->(x.toNat:Int)<=57->x≠92/\x≠91/\x≠40/\x≠41:=by
   intro x h1 h2;refine⟨?_,?_,?_,?_⟩<;>(intro e;subst e;revert h1 h2;decide)
  rcases h with ⟨x,hw,x1,x2,_⟩|⟨x,z,hw,x1,x2,z1,z2,_⟩
  ·refine⟨3,by simp[hw],by simp[hw],fun p i v o r hd=>?_⟩;rw[hw]at hd;obtain⟨q1,q2,q3,q4⟩:=dig x x1 x2;have d1:p.drop (i+1)=x::125::r:=by rw[<-YW,hd];rfl
   have d2:p.drop (i+2)=125::r:=by rw[<-YW,hd];rfl
   rw[ho,hw,show v+3=v+2+1 by omega,one 123 p i _ o _ (by decide) (by decide) (by decide) (by decide) hd,show v+2=v+1+1 by omega,one x p _ _ o _ q1 q2 q3 q4 d1,one 125 p _ _ o _ (by decide) (by decide) (by decide) (by decide) d2];rfl
  ·refine⟨5,by simp[hw],by simp[hw],fun p i v o r hd=>?_⟩;rw[hw]at hd;obtain⟨q1,q2,q3,q4⟩:=dig x x1 x2;obtain⟨p1,p2,p3,p4⟩:=dig z z1 z2;have d1:p.drop (i+1)=x::44::z::125::r:=by rw[<-YW,hd];rfl
   have d2:p.drop (i+2)=44::z::125::r:=by rw[<-YW,hd];rfl
   have d3:p.drop (i+3)=z::125::r:=by rw[<-YW,hd];rfl
   have d4:p.drop (i+4)=125::r:=by rw[<-YW,hd];rfl
   rw[ho,hw,show v+5=v+4+1 by omega,one 123 p i _ o _ (by decide) (by decide) (by decide) (by decide) hd,show v+4=v+3+1 by omega,one x p _ _ o _ q1 q2 q3 q4 d1,show v+3=v+2+1 by omega,one 44 p _ _ o _ (by decide) (by decide) (by decide) (by decide) d2,show v+2=v+1+1 by omega,one z p _ _ o _ p1 p2 p3 p4 d3,one 125 p _ _ o _ (by decide) (by decide) (by decide) (by decide) d4];rfl
theorem Fg:∀(f:Nat) (g:Bool) (ts:List Tk) (V:Int),Is f g ts V->∃C,C<=(Ye ts).length/\∀(p:List UInt8) (i v:Nat) (o:Int) (r:List UInt8),1<=o->p.drop i=Ye ts++r->Rf.groupFrom p (v+C) i o=Rf.groupFrom p v (i+(Ye ts).length) o:=by
 intro f
 induction f with
 |zero=>intro g ts V h;exact absurd h (by simp[Is])
 |succ f ih=>
  have chain:∀(a b:List UInt8) (Ca Cb:Nat),(∀(p:List UInt8) (i v:Nat) (o:Int) (r:List UInt8),1<=o->p.drop i=a++r->Rf.groupFrom p (v+Ca) i o=Rf.groupFrom p v (i+a.length) o) ->
    (∀(p:List UInt8) (i v:Nat) (o:Int) (r:List UInt8),1<=o->p.drop i=b++r->Rf.groupFrom p (v+Cb) i o=Rf.groupFrom p v (i+b.length) o) ->
    ∀(p:List UInt8) (i v:Nat) (o:Int) (r:List UInt8),1<=o->p.drop i=(a++b)++r->Rf.groupFrom p (v+(Ca+Cb)) i o=Rf.groupFrom p v (i+(a++b).length) o:=by
   intro a b Ca Cb ha hb p i v o r ho hd;rw[show v+(Ca+Cb)=(v+Cb)+Ca by omega,ha p i (v+Cb) o (b++r) ho (by rw[hd,List.append_assoc]),hb p (i+a.length) v o r ho (by rw[<-YW,hd,List.append_assoc,List.drop_left])];rw[List.length_append,Nat.add_assoc]
  intro g ts V h;cases g
  ·unfold Is at h;rcases h with ⟨t,rfl,h2,h3,_⟩|⟨a,inn,b,rfl,h2,h3,h4,h5,h6⟩|⟨q,t,A,rfl,h2,h3,h4,_⟩
   ·obtain⟨C,c1,c2,c3⟩:=Rs h2 (by omega);refine⟨C,by simpa[Ye]using c1,fun p i v o r ho hd=>?_⟩;have:=c3 p i v o r (by simpa[Ye]using hd);rw[this,show Pg.opens t.kd o=o by simp[Pg.opens,h3]];simp[Ye]
   ·obtain⟨Ca,a1,a2,a3⟩:=Rs h2 (by omega);obtain⟨Ci,i1,i2⟩:=ih true inn V h6;have hbw:b.w=[41]:=by
     rcases h4 with h|h|h|h|h|h|h|h
     all_goals first|(exact absurd h.1 (by omega))|exact h.2
    refine⟨Ca+Ci+1,by simp[Ye,hbw]at *;omega,fun p i v o r ho hd=>?_⟩;have hd':p.drop i=a.w++(Ye inn++(41::r)):=by
     rw[hd,Yd,Yg];simp[Ye,hbw]
    have hd2:p.drop (i+a.w.length)=Ye inn++(41::r):=by rw[<-YW,hd',List.drop_left]
    have hd3:p.drop (i+a.w.length+(Ye inn).length)=41::r:=by rw[<-YW,hd2,List.drop_left]
    rw[show v+(Ca+Ci+1)=(v+1+Ci)+Ca by omega,a3 p i _ o _ hd',show Pg.opens a.kd o=o+1 by simp[Pg.opens,h3],i2 p _ _ (o+1) _ (by omega) hd2,Rf.groupFrom,hd3];simp only;rw[if_neg (by decide),if_neg (by decide),if_neg (by decide),if_pos trivial,if_neg (by omega),show o+1-1=o by omega];congr 1;rw[Yd,Yg];simp[Ye,hbw];omega
   ·obtain⟨Cq,q1,q2⟩:=ih false q A h2;obtain⟨C,c1,c2,c3⟩:=Rs h3 (by unfold Ym at h4;omega);refine⟨Cq+C,by rw[Yg];simp[Ye]at *;omega,fun p i v o r ho hd=>?_⟩;rw[Yg]at hd ⊢;refine chain (Ye q) (Ye [t]) Cq C q2 ?_ p i v o r ho hd;intro p i v o r ho hd;have:=c3 p i v o r (by simpa[Ye]using hd);rw[this,PD h4];simp[Ye]
  ·unfold Is at h;rcases h with ⟨rfl,_⟩|⟨t,r0,rfl,h2,h3,h4⟩|⟨p0,r0,A,B,rfl,h2,h3,_,h5⟩
   ·exact⟨0,by simp,fun p i v o r ho hd=>by simp[Ye]⟩
   ·obtain⟨C,c1,c2,c3⟩:=Rs h2 (by omega);obtain⟨Cr,r1,r2⟩:=ih true r0 V h4;refine⟨C+Cr,by rw[Yd,List.length_append];omega,fun p i v o r ho hd=>?_⟩;rw[Yd]at hd ⊢;refine chain t.w (Ye r0) C Cr ?_ r2 p i v o r ho hd;intro p i v o r ho hd;rw[c3 p i v o r hd,show Pg.opens t.kd o=o by simp[Pg.opens,h3]]
   ·obtain⟨Cp,p1,p2⟩:=ih false p0 A h2;obtain⟨Cr,r1,r2⟩:=ih true r0 B h3;refine⟨Cp+Cr,by rw[Yg,List.length_append];omega,fun p i v o r ho hd=>?_⟩;rw[Yg]at hd ⊢;exact chain (Ye p0) (Ye r0) Cp Cr p2 r2 p i v o r ho hd
theorem FW:∀(f:Nat) (g:Bool) (ts:List Tk) (V:Int),Is f g ts V->∀t∈ts,VS t:=by
 intro f
 induction f with
 |zero=>intro g ts V h;exact absurd h (by simp[Is])
 |succ f ih=>
  intro g ts V h t ht;cases g
  ·unfold Is at h;rcases h with ⟨t',rfl,h2,_,_⟩|⟨a,inn,b,rfl,h2,_,h4,_,h6⟩|⟨q,t',A,rfl,h2,h3,_,_⟩
   ·rw[List.mem_singleton]at ht;subst ht;exact h2
   ·simp only[List.mem_cons,List.mem_append,List.not_mem_nil,or_false]at ht;rcases ht with rfl|ht|rfl
    ·exact h2
    ·exact ih _ _ _ h6 t ht
    ·exact h4
   ·simp only[List.mem_append,List.mem_singleton]at ht;rcases ht with ht|rfl
    ·exact ih _ _ _ h2 t ht
    ·exact h3
  ·unfold Is at h;rcases h with ⟨rfl,_⟩|⟨t',r,rfl,h2,_,h4⟩|⟨p,r,A,B,rfl,h2,h3,_,_⟩
   ·exact absurd ht (by simp)
   ·rcases List.mem_cons.1 ht with rfl|ht
    ·exact h2
    ·exact ih _ _ _ h4 t ht
   ·rcases List.mem_append.1 ht with ht|ht
    ·exact ih _ _ _ h2 t ht
    ·exact ih _ _ _ h3 t ht
def Qc (c:UInt8):Bool:=Rf.has Rf.suffixes c.toNat
theorem JL (c:UInt8):Qc c=true<->(c=42\/c=43\/c=63\/c=123):=by
 have h:∀d:UInt8,((d.toNat:Int)==(c.toNat:Int))=true<->c=d:=by
  intro d;rw[beq_iff_eq];constructor
  ·intro h;exact(UInt8.toNat_inj.1 (by omega))
  ·intro h;rw[h]
 simp only[Qc,Rf.has,Rf.suffixes,Bool.or_eq_true,h,Bool.false_eq_true,or_false]
theorem Wz {t:Tk} (h:VS t):∃c w,t.w=c::w/\(Qc c=true<->Ym t)/\(c=124<->t.kd=4)/\(c=40<->t.kd=2)/\(c=123<->t.kd=8):=by
 have fin:∀(c:UInt8) (w:List UInt8) (k:Int),t.w=c::w->t.kd=k->(Qc c=true<->(k=5\/k=6\/k=7\/k=8))->(c=124<->k=4)->(c=40<->k=2)->(c=123<->k=8) ->
   ∃c w,t.w=c::w/\(Qc c=true<->Ym t)/\(c=124<->t.kd=4)/\(c=40<->t.kd=2)/\(c=123<->t.kd=8):=by
  intro c w k h1 h2 h3 h4 h5 h6;refine⟨c,w,h1,?_,?_,?_,?_⟩
  ·unfold Ym;rw[h2];exact h3
  ·rw[h2];exact h4
  ·rw[h2];exact h5
  ·rw[h2];exact h6
 rcases h with ⟨hk,h⟩|⟨hk,hw⟩|⟨hk,hw⟩|⟨hk,hw⟩|⟨hk,hw⟩|⟨hk,hw⟩|⟨hk,hw⟩|⟨hk,h⟩
 ·rcases h with ⟨c,hw,hs⟩|⟨e,v0,hw,_⟩|⟨e,hw,_⟩
  ·unfold WC at hs;refine fin c [] 1 hw hk ?_ ?_ ?_ ?_
   ·rw[JL];constructor
    ·intro h;exact absurd (by rcases h with h|h|h|h<;>simp[h]) hs
    ·intro h;omega
   ·constructor
    ·intro h;exact absurd (by simp[h]) hs
    ·intro h;omega
   ·constructor
    ·intro h;exact absurd (by simp[h]) hs
    ·intro h;omega
   ·constructor
    ·intro h;exact absurd (by simp[h]) hs
    ·intro h;omega
  ·exact fin 92 e 1 hw hk (by decide) (by decide) (by decide) (by decide)
  ·exact fin 91 e 1 hw hk (by decide) (by decide) (by decide) (by decide)
 ·exact fin 40 [] 2 hw hk (by decide) (by decide) (by decide) (by decide)
 ·exact fin 41 [] 3 hw hk (by decide) (by decide) (by decide) (by decide)
 ·exact fin 124 [] 4 hw hk (by decide) (by decide) (by decide) (by decide)
 ·exact fin 42 [] 5 hw hk (by decide) (by decide) (by decide) (by decide)
 ·exact fin 43 [] 6 hw hk (by decide) (by decide) (by decide) (by decide)
 ·exact fin 63 [] 7 hw hk (by decide) (by decide) (by decide) (by decide)
 ·rcases h with ⟨x,hw,_⟩|⟨x,z,hw,_⟩
  ·exact fin 123 _ 8 hw hk (by decide) (by decide) (by decide) (by decide)
  ·exact fin 123 _ 8 hw hk (by decide) (by decide) (by decide) (by decide)
variable {mo:Int}{r:List UInt8}{i:Nat}{c:UInt8}
theorem WH {p:List UInt8}{f:Nat} (hd:p.drop i=c::r) (h:c≠125):Rf.closeFrom p (f+1) i=Rf.closeFrom p f (i+1):=by
 rw[Rf.closeFrom,hd];simp only[if_neg h]
theorem QA {p:List UInt8}{f:Nat} (hd:p.drop i=125::r):Rf.closeFrom p (f+1) i=some (i+1):=by
 rw[Rf.closeFrom,hd];simp only[if_true]
theorem RZ {p:List UInt8}{l:List UInt8} (hd:p.drop i=l):l.length=p.length-i:=by
 rw[<-hd];simp
theorem Rh {t:Tk} (h:VS t) (hs:Ym t) (p:List UInt8) (i:Nat) (r:List UInt8) (hd:p.drop i=t.w++r):Rf.suffixed p i=some (i+t.w.length):=by
 have one:∀c:UInt8,c≠123->t.w=[c]->Rf.suffixed p i=some (i+t.w.length):=by
  intro c hc hw;rw[hw]at hd ⊢;rw[Rf.suffixed,hd];simp only[List.cons_append,if_neg hc];rfl
 unfold Ym at hs;rcases h with ⟨hk,_⟩|⟨hk,_⟩|⟨hk,_⟩|⟨hk,_⟩|⟨hk,hw⟩|⟨hk,hw⟩|⟨hk,hw⟩|⟨hk,h⟩
 ·omega
 ·omega
 ·omega
 ·omega
 ·exact one 42 (by decide) hw
 ·exact one 43 (by decide) hw
 ·exact one 63 (by decide) hw
 ·have dig:∀x:UInt8,48<=(x.toNat:Int)->(x.toNat:Int)<=57->x≠125:=by
   intro x h1 h2 e;subst e;revert h1 h2;decide
  rcases h with ⟨x,hw,x1,x2,_⟩|⟨x,z,hw,x1,x2,z1,z2,_⟩
  ·rw[hw]at hd ⊢;have d1:p.drop (i+1)=x::125::r:=by rw[<-YW,hd];rfl
   have d2:p.drop (i+2)=125::r:=by rw[<-YW,hd];rfl
   have hl:=RZ hd;simp at hl;obtain⟨v,hv⟩:∃v,p.length+1=v+1+1+1:=⟨p.length-2,by omega⟩;rw[Rf.suffixed,hd];simp only[List.cons_append,if_true];rw[hv,WH hd (by decide),WH d1 (dig x x1 x2),QA d2];rfl
  ·rw[hw]at hd ⊢;have d1:p.drop (i+1)=x::44::z::125::r:=by rw[<-YW,hd];rfl
   have d2:p.drop (i+2)=44::z::125::r:=by rw[<-YW,hd];rfl
   have d3:p.drop (i+3)=z::125::r:=by rw[<-YW,hd];rfl
   have d4:p.drop (i+4)=125::r:=by rw[<-YW,hd];rfl
   have hl:=RZ hd;simp at hl;obtain⟨v,hv⟩:∃v,p.length+1=v+1+1+1+1+1:=⟨p.length-4,by omega⟩;rw[Rf.suffixed,hd];simp only[List.cons_append,if_true];rw[hv,WH hd (by decide),WH d1 (dig x x1 x2),WH d2 (by decide),WH d3 (dig z z1 z2),QA d4];rfl
def F0 (ts:List Tk):Prop:=∀t∈ts,VS t/\Ym t
theorem LU {ts:List Tk} (h:∀t∈ts,VS t):ts.length<=(Ye ts).length:=by
 induction ts with
 |nil=>simp
 |cons t r ih=>
  obtain⟨c,w,hw,_⟩:=Wz (h t (by simp));have:=ih (fun t' ht=>h t' (by simp[ht]));rw[Yd,List.length_append,hw];simp;omega
theorem MD:∀(ts:List Tk),F0 ts->∀(p:List UInt8) (i f:Nat) (r:List UInt8),p.drop i=Ye ts++r->(∀c r',r=c::r'->Qc c=false)->ts.length<f->Rf.pieceFrom p f i=some (i+(Ye ts).length):=by
 intro ts
 induction ts with
 |nil=>
  intro _ p i f r hd hr hf;obtain⟨f,rfl⟩:∃q,f=q+1:=⟨f-1,by omega⟩;simp only[Ye,List.flatMap_nil,List.nil_append,List.length_nil,Nat.add_zero]at hd ⊢;rw[Rf.pieceFrom,hd];rcases r with _|⟨c,r'⟩
  ·rfl
  ·have:=hr c r' rfl;unfold Qc at this;simp only[this];rfl
 |cons t ts ih=>
  intro hs p i f r hd hr hf;obtain⟨f,rfl⟩:∃q,f=q+1:=⟨f-1,by omega⟩;obtain⟨h1,h2⟩:=hs t (by simp);rw[Yd,List.append_assoc]at hd;obtain⟨c,w,hw,hc,_⟩:=Wz h1;have hcs:=hc.2 h2;unfold Qc at hcs;have hstep:=Rh h1 h2 p i _ hd;have hd2:p.drop (i+t.w.length)=Ye ts++r:=by rw[<-YW,hd,List.drop_left]
  have hd':=hd;rw[hw,List.cons_append]at hd';rw[Rf.pieceFrom,hd'];simp only[hcs,if_true];rw[hstep];simp only;rw[ih (fun t' ht=>hs t' (by simp[ht])) p _ f r hd2 hr (by simp at hf;omega),Yd,List.length_append,Nat.add_assoc]
theorem MN:∀(ts:List Tk),F0 ts->∀(t:Tk),VS t->Ym t->∀(p:List UInt8) (i cut f:Nat),p.drop i=Ye ts++t.w->ts.length+1<f->Rf.splitFrom p f i cut=some (i+(Ye ts).length):=by
 intro ts
 induction ts with
 |nil=>
  intro _ t h1 h2 p i cut f hd hf;obtain⟨f,rfl⟩:∃q,f=q+1+1:=⟨f-2,by simp at hf;omega⟩;have hd0:p.drop i=t.w++[]:=by rw[hd];simp[Ye]
  have hstep:=Rh h1 h2 p i [] hd0;have hd2:p.drop (i+t.w.length)=[]:=by rw[<-YW,hd0,List.drop_left]
  obtain⟨c,w,hw,_⟩:=Wz h1;rw[hw,List.cons_append]at hd0;rw[Rf.splitFrom,hd0];simp only[hstep];rw[Rf.splitFrom,hd2];rfl
 |cons t0 ts ih=>
  intro hs t h1 h2 p i cut f hd hf;obtain⟨f,rfl⟩:∃q,f=q+1:=⟨f-1,by omega⟩;obtain⟨g1,g2⟩:=hs t0 (by simp);rw[Yd,List.append_assoc]at hd;have hstep:=Rh g1 g2 p i _ hd;have hd2:p.drop (i+t0.w.length)=Ye ts++t.w:=by rw[<-YW,hd,List.drop_left]
  obtain⟨c,w,hw,_⟩:=Wz g1;rw[hw,List.cons_append]at hd;rw[Rf.splitFrom,hd];simp only[hstep];rw[ih (fun t' ht=>hs t' (by simp[ht])) t h1 h2 p _ i f hd2 (by simp at hf;omega),Yd,List.length_append,Nat.add_assoc]
theorem UP:∀(f:Nat) (p:List Tk) (V:Int),Is f false p V->∃(base:List UInt8) (sufs:List Tk),Ye p=base++Ye sufs/\F0 sufs/\(∃c w,base=c::w/\c≠124)/\∀r,Rf.atom (base++r)=some base.length:=by
 intro f
 induction f with
 |zero=>intro p V h;exact absurd h (by simp[Is])
 |succ f ih=>
  intro p V h;unfold Is at h;rcases h with ⟨t,rfl,h2,h3,rfl⟩|⟨a,inn,b,rfl,h2,h3,h4,h5,h6⟩|⟨q,t,A,rfl,h2,h3,h4,_⟩
  ·obtain⟨c,w,hw,_,hc,h40,_⟩:=Wz h2;refine⟨t.w,[],by simp[Ye],(by intro t' ht;simp at ht),⟨c,w,hw,fun e=>by have:=hc.1 e;omega⟩,fun r=>?_⟩;have hp:SI t.w:=by
    rcases h2 with h|h|h|h|h|h|h|h
    all_goals first|(exact absurd h.1 (by omega))|exact h.2
   rcases hp with ⟨c,hw,hs⟩|⟨e,v0,hw,hone⟩|⟨e,hw,hset⟩
   ·unfold WC at hs;rw[hw,List.cons_append,Rf.atom]
    (try simp only)
    rw[if_neg (fun e=>hs (by simp[e])),if_neg (fun e=>hs (by simp[e])),if_neg (fun e=>hs (by simp[e]))];rfl
   ·rw[hw,List.cons_append,Rf.atom];simp only[if_true];rw[hone r];rfl
   ·obtain⟨fa,inn,hs⟩:=hset r 0;rw[hw,List.cons_append,Rf.atom];simp only;rw[if_neg (by decide),if_pos trivial,hs];simp
  ·have haw:a.w=[40]:=by
    rcases h2 with h|h|h|h|h|h|h|h
    all_goals first|(exact absurd h.1 (by omega))|exact h.2
   have hbw:b.w=[41]:=by
    rcases h4 with h|h|h|h|h|h|h|h
    all_goals first|(exact absurd h.1 (by omega))|exact h.2
   have ht:Ye (a::(inn++[b]))=40::(Ye inn++[41]):=by
    rw[Yd,Yg,haw];simp[Ye,hbw]
   refine⟨40::(Ye inn++[41]),[],by rw[ht];simp[Ye],(by intro t' ht;simp at ht),⟨40,_,rfl,by decide⟩,fun r=>?_⟩;obtain⟨C,c1,c2⟩:=Fg f true inn V h6;rw[List.cons_append,Rf.atom];simp only;rw[if_neg (by decide),if_neg (by decide),if_pos trivial,Rf.groupFrom,List.drop_zero];simp only;rw[if_neg (by decide),if_neg (by decide),if_pos trivial];have hlen:(Ye inn++[41]++r).length=(Ye inn).length+1+r.length:=by simp;omega
   obtain⟨v,hv⟩:∃v,(Ye inn++[41]++r).length+1=(v+1)+C:=⟨(Ye inn).length+1+r.length-C,by omega⟩;have hd1:(40::(Ye inn++[41]++r)).drop (0+1)=Ye inn++(41::r):=by simp
   have hd2:(40::(Ye inn++[41]++r)).drop (0+1+(Ye inn).length)=41::r:=by rw[<-YW,hd1,List.drop_left]
   rw[hv,c2 _ _ (v+1) (0+1) (41::r) (by omega) hd1,Rf.groupFrom,hd2];simp only;rw[if_neg (by decide),if_neg (by decide),if_neg (by decide),if_pos trivial,if_pos (by decide)];simp;omega
  ·obtain⟨base,sufs,e1,e2,e3,e4⟩:=ih q A h2;refine⟨base,sufs++[t],by rw[Yg,Yg,e1,List.append_assoc],?_,e3,e4⟩;intro t' ht;rcases List.mem_append.1 ht with ht|ht
   ·exact e2 t' ht
   ·rw[List.mem_singleton]at ht;subst ht;exact⟨h3,h4⟩
theorem I9 {r:List Tk} (h:∀t∈r,VS t) (hn:∀t r',r=t::r'->¬Ym t):∀c r',Ye r=c::r'->Qc c=false:=by
 intro c r' he;rcases r with _|⟨t,r⟩
 ·simp[Ye]at he
 ·obtain⟨d,w,hw,hc,_⟩:=Wz (h t (by simp));rw[Yd,hw,List.cons_append]at he;injection he with he1 he2;subst he1;cases hb:Qc d
  ·rfl
  ·exact absurd (hc.1 hb) (hn t r rfl)
theorem Mv {w:List UInt8} (h:VR w mo):Rf.most w=some mo:=by
 have dig:∀x:UInt8,48<=(x.toNat:Int)->(x.toNat:Int)<=57->Rf.digit x.toNat=true:=by
  intro x h1 h2;simp[Rf.digit];omega
 rcases h with ⟨x,rfl,x1,x2,rfl⟩|⟨x,z,rfl,x1,x2,z1,z2,rfl⟩
 ·simp[Rf.most,dig x x1 x2]
 ·simp[Rf.most,dig x x1 x2,dig z z1 z2]
theorem IR:∀(f:Nat) (g:Bool) (ts:List Tk) (V:Int),Is f g ts V->∃G,∀v,Rf.cnt (v+G) g (Ye ts)=some V:=by
 intro f
 induction f with
 |zero=>intro g ts V h;exact absurd h (by simp[Is])
 |succ f ih=>
  intro g ts V h;have hall:=FW _ _ _ _ h;cases g
  ·have h0:=h;unfold Is at h;rcases h with ⟨t,rfl,h2,h3,rfl⟩|⟨a,inn,b,rfl,h2,h3,h4,h5,h6⟩|⟨q,t,A,rfl,h2,h3,h4,rfl⟩
   ·refine⟨1,fun v=>?_⟩;obtain⟨base,sufs,e1,e2,e3,e4⟩:=UP 1 [t] 1 (Or.inl ⟨t,rfl,h2,h3,rfl⟩);obtain⟨c,w,hw,hsf,hc,h40,_⟩:=Wz h2;have ht:Ye [t]=t.w:=by simp[Ye]
    have hp:SI t.w:=by
     rcases h2 with h|h|h|h|h|h|h|h
     all_goals first|(exact absurd h.1 (by omega))|exact h.2
    have hat:Rf.atom t.w=some t.w.length:=by
     rcases hp with ⟨c,hw,hs⟩|⟨e,v0,hw,hone⟩|⟨e,hw,hset⟩
     ·unfold WC at hs;rw[hw,Rf.atom]
      (try simp only)
      rw[if_neg (fun e=>hs (by simp[e])),if_neg (fun e=>hs (by simp[e])),if_neg (fun e=>hs (by simp[e]))];rfl
     ·have:=hone [];rw[List.append_nil]at this;rw[hw,Rf.atom];simp only[if_true];rw[this];rfl
     ·obtain⟨fa,inn,hs⟩:=hset [] 0;rw[List.append_nil]at hs;rw[hw,Rf.atom];simp only;rw[if_neg (by decide),if_pos trivial,hs];simp
    have hsp:Rf.split t.w=some t.w.length:=by
     rw[Rf.split,hat];simp only;rw[Rf.splitFrom,List.drop_length]
    rw[ht,Rf.cnt.eq_def];simp only[hsp,List.drop_length];rw[hw];simp only;rw[if_neg (fun e=>by have:=h40.1 e;omega)]
   ·obtain⟨G,hG⟩:=ih true inn V h6;have haw:a.w=[40]:=by
     rcases h2 with h|h|h|h|h|h|h|h
     all_goals first|(exact absurd h.1 (by omega))|exact h.2
    have hbw:b.w=[41]:=by
     rcases h4 with h|h|h|h|h|h|h|h
     all_goals first|(exact absurd h.1 (by omega))|exact h.2
    have ht:Ye (a::(inn++[b]))=40::(Ye inn++[41]):=by
     rw[Yd,Yg,haw];simp[Ye,hbw]
    refine⟨G+1,fun v=>?_⟩;obtain⟨C,c1,c2⟩:=Fg f true inn V h6;have hat:Rf.atom (40::(Ye inn++[41]))=some (40::(Ye inn++[41])).length:=by
     rw[Rf.atom];simp only;rw[if_neg (by decide),if_neg (by decide),if_pos trivial,Rf.groupFrom,List.drop_zero];simp only;rw[if_neg (by decide),if_neg (by decide),if_pos trivial];have hlen:(Ye inn++[41]).length=(Ye inn).length+1:=by simp
     obtain⟨v,hv⟩:∃v,(Ye inn++[41]).length+1=(v+1)+C:=⟨(Ye inn).length+1-C,by omega⟩;have hd1:(40::(Ye inn++[41])).drop (0+1)=Ye inn++[41]:=by simp
     have hd2:(40::(Ye inn++[41])).drop (0+1+(Ye inn).length)=[41]:=by rw[<-YW,hd1,List.drop_left]
     rw[hv,c2 _ _ (v+1) (0+1) [41] (by omega) hd1,Rf.groupFrom,hd2];simp only;rw[if_neg (by decide),if_neg (by decide),if_neg (by decide),if_pos trivial,if_pos (by decide)];simp;omega
    have hsp:Rf.split (40::(Ye inn++[41]))=some (40::(Ye inn++[41])).length:=by
     rw[Rf.split,hat];simp only;rw[Rf.splitFrom,List.drop_length]
    rw[ht,show v+(G+1)=(v+G)+1 by omega,Rf.cnt.eq_def];have hx:(Ye inn++[41]).length-1=(Ye inn).length:=by simp
    have hy:¬(Ye inn++[41]).length=0:=by simp
    simp only[hsp,List.drop_length,if_true,if_neg hy,hx,List.take_left];exact hG v
   ·obtain⟨G,hG⟩:=ih false q A h2;obtain⟨base,sufs,e1,e2,e3,e4⟩:=UP f q A h2;obtain⟨c,w,hw,hsf,hc,h40,h123⟩:=Wz h3;have ht:Ye (q++[t])=Ye q++t.w:=by rw[Yg];simp[Ye]
    have hl:=LU (fun t' ht'=>(e2 t' ht').1);have hsp:Rf.split (Ye q++t.w)=some (Ye q).length:=by
     have ha:Rf.atom (Ye q++t.w)=some base.length:=by rw[e1,List.append_assoc];exact e4 _
     rw[Rf.split,ha];simp only;rw[MN sufs e2 t h3 h4 _ base.length base.length _ (by rw[e1,List.append_assoc,List.drop_left]) (by rw[List.length_append,hw,e1,List.length_append,List.length_cons];omega),e1,List.length_append]
    refine⟨G+1,fun v=>?_⟩;rw[ht,show v+(G+1)=(v+G)+1 by omega,Rf.cnt.eq_def];simp only[hsp,List.drop_left,List.take_left];rw[hw];simp only;rw[hG];simp only;by_cases h8:t.kd=8
    ·rw[if_pos (h123.2 h8),if_pos h8,<-hw,Mv (Pz h3 h8).2];rfl
    ·rw[if_neg (fun e=>h8 (h123.1 e)),if_neg h8]
  ·unfold Is at h;rcases h with ⟨rfl,rfl⟩|⟨t,r,rfl,h2,h3,h4⟩|⟨p,r,A,B,rfl,h2,h3,rfl,h5⟩
   ·exact⟨1,fun v=>rfl⟩
   ·obtain⟨G,hG⟩:=ih true r V h4;have htw:t.w=[124]:=by
     rcases h2 with h|h|h|h|h|h|h|h
     all_goals first|(exact absurd h.1 (by omega))|exact h.2
    refine⟨G+1,fun v=>?_⟩;rw[Yd,htw,show v+(G+1)=(v+G)+1 by omega,List.singleton_append,Rf.cnt];simp only[if_true];exact hG v
   ·obtain⟨Gp,hGp⟩:=ih false p A h2;obtain⟨Gr,hGr⟩:=ih true r B h3;obtain⟨base,sufs,e1,e2,⟨c,w,hb,hc⟩,e4⟩:=UP f p A h2;have hl:=LU (fun t' ht'=>(e2 t' ht').1);have hpc:Rf.piece (Ye p++Ye r)=some (Ye p).length:=by
     have ha:Rf.atom (Ye p++Ye r)=some base.length:=by rw[e1,List.append_assoc];exact e4 _
     rw[Rf.piece,ha];simp only;rw[MD sufs e2 _ base.length _ (Ye r) (by rw[e1,List.append_assoc,List.drop_left]) (I9 (fun t ht=>hall t (by simp[ht])) h5) (by rw[List.length_append,e1,List.length_append];omega),e1,List.length_append]
    refine⟨Gp+Gr+1,fun v=>?_⟩;obtain⟨l',hl'⟩:∃l',Ye p++Ye r=c::l':=⟨_,by rw[e1,hb];rfl⟩;have htk:(c::l').take (Ye p).length=Ye p:=by rw[<-hl',List.take_left]
    have hdr:(c::l').drop (Ye p).length=Ye r:=by rw[<-hl',List.drop_left]
    rw[Yg,hl',show v+(Gp+Gr+1)=(v+Gp+Gr)+1 by omega,Rf.cnt]
    (try simp only)
    rw[if_neg hc,<-hl',hpc];simp only;rw[hl',htk,hdr,hGr (v+Gp),show v+Gp+Gr=(v+Gr)+Gp by omega,hGp]
theorem GJ (s:ByteArray) (k:Nat) (c:UInt8) (r:List UInt8) (hd:s.data.toList.drop k=c::r) (h0:Pg.kindOf (Y5 s k)≠0) (hok:(Pg.readPart (Y5 s) s.size k (Pg.kindOf (Y5 s k))).ok=true):
  ∃n:Nat,1<=n/\k+n<=s.size/\(Pg.readPart (Y5 s) s.size k (Pg.kindOf (Y5 s k))).n=((k+n:Nat):Int)/\VS ⟨(s.data.toList.drop k).take n,Pg.kindOf (Y5 s k),(Pg.readPart (Y5 s) s.size k (Pg.kindOf (Y5 s k))).mo⟩:=by
 have hb:Y5 s (k:Int)=c.toNat:=by rw[UF hd];rfl
 have hlt:=XY hd;have hlen:r.length+1=s.size-k:=by
  have:(s.data.toList.drop k).length=s.size-k:=by simp
  rw[hd]at this;simpa using this
 by_cases e91:c=91
 ·subst e91;have hk:Pg.kindOf (Y5 s k)=1:=by rw[hb];rfl
  have hb':Y5 s (k:Int)=91:=hb;rw[hk]at hok ⊢;have hP:Pg.readPart (Y5 s) s.size k 1=⟨(Pg.readSet (Y5 s) s.size k).n,(Pg.readSet (Y5 s) s.size k).ok,(Pg.readSet (Y5 s) s.size k).f,0,(Pg.readSet (Y5 s) s.size k).fa⟩:=by
   rw[Pg.readPart,if_pos rfl,Pg.readPlace,if_pos hb']
  rw[hP]at hok ⊢;rcases Sz s k r 0 0 0 (Or.inl rfl) hd with ⟨n,F,FA,h1,h2,h3,h4,_⟩|⟨h1,_⟩
  ·refine⟨n-k,by omega,by omega,?_,Or.inl ⟨rfl,Or.inr (Or.inr ⟨r.take (n-k-1),?_,fun r' i'=>?_⟩)⟩⟩
   ·rw[h3,show k+(n-k)=n by omega]
   ·show(s.data.toList.drop k).take (n-k)=_;rw[hd,show n-k=(n-k-1)+1 by omega,List.take_succ_cons];rfl
   ·obtain⟨fa,h⟩:=PG h4 r' i';refine⟨fa,F,?_⟩;rw[h,List.length_take,show i'+(n-k)=i'+(min (n-k-1) r.length+1) by omega]
  ·rw[h1]at hok;cases hok
 by_cases e92:c=92
 ·subst e92;have hk:Pg.kindOf (Y5 s k)=1:=by rw[hb];rfl
  have hb':Y5 s (k:Int)=92:=hb;rw[hk]at hok ⊢;have hP:Pg.readPart (Y5 s) s.size k 1=⟨(Pg.readEscape (Y5 s) k).n,(Pg.readEscape (Y5 s) k).ok,Pg.withF (fun _=>false) (Pg.readEscape (Y5 s) k).v (Pg.readEscape (Y5 s) k).v,0,-1⟩:=by
   rw[Pg.readPart,if_pos rfl,Pg.readPlace,if_neg (by rw[hb'];decide),if_neg (by rw[hb'];decide),if_pos hb']
  rw[hP]at hok ⊢;rcases Uk s k r hd with ⟨n,v,h1,h2,h3,_⟩|⟨n,h1,_⟩
  ·refine⟨n+1,by omega,by omega,by rw[h1],Or.inl ⟨rfl,Or.inr (Or.inl ⟨r.take n,v,?_,fun r'=>?_⟩)⟩⟩
   ·show(s.data.toList.drop k).take (n+1)=_;rw[hd,List.take_succ_cons]
   ·have:=Vr h2 r';rw[List.take_succ_cons,List.cons_append]at this;rw[this,List.length_take,Nat.min_eq_left h3]
  ·rw[h1]at hok;cases hok
 by_cases e123:c=123
 ·subst e123;have hk:Pg.kindOf (Y5 s k)=8:=by rw[hb];rfl
  rw[hk]at hok ⊢;have hP:Pg.readPart (Y5 s) s.size k 8=⟨(Pg.readCount (Y5 s) k).n,(Pg.readCount (Y5 s) k).ok,fun _=>false,(Pg.readCount (Y5 s) k).v,Pg.countFalls (Y5 s) k⟩:=rfl;rw[hP]at hok ⊢;rcases RT s k r 0 0 hd with ⟨n,mo,le,h1,_,h3,_⟩|⟨h1,_⟩
  ·rw[h1];have hC:VR ((123::r).take n) mo:=by
    rcases h3 with ⟨x,r',rfl,rfl,x1,x2,rfl,_⟩|⟨x,z,r',rfl,rfl,x1,x2,z1,z2,rfl,_⟩
    ·exact Or.inl ⟨x,rfl,x1,x2,rfl⟩
    ·exact Or.inr ⟨x,z,rfl,x1,x2,z1,z2,rfl⟩
   have hn:1<=n/\n<=r.length+1:=by
    rcases h3 with ⟨x,r',rfl,rfl,_⟩|⟨x,z,r',rfl,rfl,_⟩<;>(simp)
   refine⟨n,hn.1,by omega,rfl,?_⟩;rw[hd];exact Or.inr (Or.inr (Or.inr (Or.inr (Or.inr (Or.inr (Or.inr ⟨rfl,hC⟩))))))
  ·rw[h1]at hok;cases hok
 have hother:∀kd:Int,kd≠1->kd≠8->Pg.readPart (Y5 s) s.size k kd=⟨(k:Int)+1,true,fun _=>false,0,-1⟩:=fun kd h1 h8=>by rw[Pg.readPart,if_neg h1,if_neg h8]
 have hone:(s.data.toList.drop k).take 1=[c]:=by rw[hd];rfl
 have fin:∀kd:Int,Pg.kindOf (Y5 s k)=kd->(Pg.readPart (Y5 s) s.size k kd).n=(k:Int)+1->VS ⟨[c],kd,(Pg.readPart (Y5 s) s.size k kd).mo⟩ ->
   ∃n:Nat,1<=n/\k+n<=s.size/\(Pg.readPart (Y5 s) s.size k (Pg.kindOf (Y5 s k))).n=((k+n:Nat):Int)/\VS ⟨(s.data.toList.drop k).take n,Pg.kindOf (Y5 s k),(Pg.readPart (Y5 s) s.size k (Pg.kindOf (Y5 s k))).mo⟩:=by
  intro kd h1 h2 h3;rw[h1];exact⟨1,by omega,by omega,by rw[h2];rfl,by rw[hone];exact h3⟩
 by_cases e40:c=40
 ·subst e40;exact fin 2 (by rw[hb];rfl) (by rw[hother 2 (by decide) (by decide)]) (Or.inr (Or.inl ⟨rfl,rfl⟩))
 by_cases e41:c=41
 ·subst e41;exact fin 3 (by rw[hb];rfl) (by rw[hother 3 (by decide) (by decide)]) (Or.inr (Or.inr (Or.inl ⟨rfl,rfl⟩)))
 by_cases e124:c=124
 ·subst e124;exact fin 4 (by rw[hb];rfl) (by rw[hother 4 (by decide) (by decide)]) (Or.inr (Or.inr (Or.inr (Or.inl ⟨rfl,rfl⟩))))
 by_cases e42:c=42
 ·subst e42;exact fin 5 (by rw[hb];rfl) (by rw[hother 5 (by decide) (by decide)]) (Or.inr (Or.inr (Or.inr (Or.inr (Or.inl ⟨rfl,rfl⟩)))))
 by_cases e43:c=43
 ·subst e43;exact fin 6 (by rw[hb];rfl) (by rw[hother 6 (by decide) (by decide)]) (Or.inr (Or.inr (Or.inr (Or.inr (Or.inr (Or.inl ⟨rfl,rfl⟩))))))
 by_cases e63:c=63
 ·subst e63;exact fin 7 (by rw[hb];rfl) (by rw[hother 7 (by decide) (by decide)]) (Or.inr (Or.inr (Or.inr (Or.inr (Or.inr (Or.inr (Or.inl ⟨rfl,rfl⟩)))))))
 by_cases e93:c=93
 ·subst e93;exact absurd (by rw[hb];rfl) h0
 by_cases e125:c=125
 ·subst e125;exact absurd (by rw[hb];rfl) h0
 have n91:(c.toNat:Int)≠91:=YA e91;have n92:(c.toNat:Int)≠92:=YA e92;have n123:(c.toNat:Int)≠123:=YA e123;have n40:(c.toNat:Int)≠40:=YA e40;have n41:(c.toNat:Int)≠41:=YA e41;have n124:(c.toNat:Int)≠124:=YA e124;have n42:(c.toNat:Int)≠42:=YA e42;have n43:(c.toNat:Int)≠43:=YA e43;have n63:(c.toNat:Int)≠63:=YA e63;have n93:(c.toNat:Int)≠93:=YA e93;have n125:(c.toNat:Int)≠125:=YA e125;have hk1:Pg.kindOf (Y5 s k)=1:=by
  rw[hb];unfold Pg.kindOf;rw[if_neg (by omega),if_neg n40,if_neg n41,if_neg n124,if_neg n42,if_neg n43,if_neg n63,if_neg n123]
 refine fin 1 hk1 ?_ (Or.inl ⟨rfl,Or.inl ⟨c,rfl,?_⟩⟩)
 ·rw[Pg.readPart,if_pos rfl,Pg.readPlace,hb,if_neg n91];by_cases e46:(c.toNat:Int)=46
  ·rw[if_pos e46]
  ·rw[if_neg e46,if_neg n92]
 ·unfold WC;intro h;rcases h with h|h|h|h|h|h|h|h|h|h|h<;>contradiction
theorem Ju (s:ByteArray):∀(u k:Nat) (bf op:Int) (acc:List Pg.Pt),s.size<u+k->k<=s.size->(Pg.partsFrom (Y5 s) s.size u bf op k acc).ok=true ->
  ∃ps ts,(Pg.partsFrom (Y5 s) s.size u bf op k acc).ps=acc++ps/\Ye ts=s.data.toList.drop k/\IG ts bf op/\ps.map (fun p=>(p.kd,p.mo))=ts.map (fun t=>(t.kd,t.mo)):=by
 intro u
 induction u with
 |zero=>intro k bf op acc h1 h2;omega
 |succ u ih=>
  intro k bf op acc hu hk hok;rcases hd:s.data.toList.drop k with _|⟨c,r⟩
  ·have hks:k=s.size:=by
    have:s.size<=k:=by simpa using hd
    omega
   have hge:¬(k:Int)<(s.size:Int):=by omega
   rw[Pg.partsFrom,if_neg hge]at hok ⊢;exact⟨[],[],by simp,rfl,by simpa[IG]using hok,rfl⟩
  ·have hlt:=XY hd;have hlti:(k:Int)<(s.size:Int):=by omega
   rw[Pg.partsFrom,if_pos hlti]at hok ⊢;cases hc:Pg.canStand (Pg.kindOf (Y5 s k)) bf op
   ·rw[hc]at hok;cases hok
   rw[hc]at hok;simp only[if_true]at hok ⊢;cases hp:(Pg.readPart (Y5 s) s.size k (Pg.kindOf (Y5 s k))).ok
   ·rw[hp]at hok;cases hok
   rw[hp]at hok;simp only[if_true]at hok ⊢;have h0:Pg.kindOf (Y5 s k)≠0:=by
    intro e;rw[e]at hc;simp[Pg.canStand]at hc
   obtain⟨n,n1,n2,n3,n4⟩:=GJ s k c r hd h0 hp;rw[n3]at hok ⊢;obtain⟨ps,ts,g1,g2,g3,g4⟩:=ih (k+n) _ _ _ (by omega) n2 hok;refine⟨_::ps,⟨(s.data.toList.drop k).take n,Pg.kindOf (Y5 s k),(Pg.readPart (Y5 s) s.size k (Pg.kindOf (Y5 s k))).mo⟩::ts,by rw[g1,List.append_assoc];rfl,?_,⟨n4,hc,g3⟩,?_⟩
   ·rw[Yd,g2,<-hd,<-YW,List.take_append_drop]
   ·simp only[List.map_cons,g4]
theorem TF:∀(ps qs:List Pg.Pt),ps.map (fun p=>(p.kd,p.mo))=qs.map (fun p=>(p.kd,p.mo))->∀c,Pg.cRun ps c=Pg.cRun qs c:=by
 intro ps
 induction ps with
 |nil=>
  intro qs h c;rcases qs with _|⟨q,qs⟩
  ·rfl
  ·simp at h
 |cons p ps ih=>
  intro qs h c;rcases qs with _|⟨q,qs⟩
  ·simp at h
  ·simp only[List.map_cons,List.cons.injEq,Prod.mk.injEq]at h;obtain⟨⟨h1,h2⟩,h3⟩:=h;have hs:Pg.cStep c p=Pg.cStep c q:=by unfold Pg.cStep;rw[h1,h2]
   simp only[Pg.cRun];rw[hs];exact ih qs h3 _
theorem OR (s:ByteArray) (h:(Pg.readParts (Y5 s) s.size).ok=true):∃V g,Rf.cnt g true s.data.toList=some V/\0<=V/\Pg.countPlaces (Pg.readParts (Y5 s) s.size).ps=Pg.capped V:=by
 unfold Pg.readParts at h ⊢;obtain⟨ps,ts,h1,h2,h3,h4⟩:=Ju s ((s.size:Int).toNat+1) 0 0 0 [] (by omega) (by omega) h;have hns:∀t r,ts=t::r->¬Ym t:=by
  intro t r e hs;rw[e]at h3;have:=h3.2.1;unfold Ym at hs;simp[Pg.canStand,Pg.endsPiece,Pg.isSuffix]at this;rcases hs with h|h|h|h<;>simp[h]at this
 obtain⟨f,inn,rest,V,g1,g2,g3⟩:=GH ts.length ts 0 0 (Nat.le_refl _) (Int.le_refl _) h3 hns;have hrest:rest=[]:=by
  rcases g3 with ⟨h,_⟩|⟨b,r,_,_,_,h,_⟩
  ·exact h
  ·omega
 rw[hrest,List.append_nil]at g1;subst g1;obtain⟨G,hG⟩:=IR f true ts V g2;obtain⟨hV,_,hT⟩:=machine f true ts V g2;obtain⟨ah,la,e1,_,_,e4⟩:=hT rfl ⟨0,0,[]⟩ (by simp) (by simp);refine⟨V,G,?_,hV,?_⟩
 ·have:=hG 0;rw[h2,List.drop_zero,Nat.zero_add]at this;exact this
 ·have h1':(Pg.partsFrom (Y5 s) (s.size:Int) ((s.size:Int).toNat+1) 0 0 0 []).ps=ps:=by
   have:=h1;rw[List.nil_append]at this;exact this
  rw[h1',Pg.countPlaces,TF ps (ts.map Wj) (by rw[h4,List.map_map];rfl),e1];simp only;rw[e4];simp
theorem Xn (s:ByteArray):Rf.WrongIs s.data.toList (Pg.wrong (Y5 s) s.size).1 (Pg.wrong (Y5 s) s.size).2/\((Pg.wrong (Y5 s) s.size).1=0->(Pg.wrong (Y5 s) s.size).2=0/\s.size<=40/\(Pg.readParts (Y5 s) s.size).ok=true):=by
 have hl:s.data.toList.length=s.size:=by simp
 by_cases h40:40<s.size
 ·have:Pg.wrong (Y5 s) s.size=(2,0):=by rw[Pg.wrong,if_pos (by omega)]
  rw[this];exact⟨Or.inl ⟨by omega,rfl,rfl⟩,fun h=>by simp at h⟩
 have hw:Pg.wrong (Y5 s) s.size=if (Pg.readParts (Y5 s) s.size).ok then
  (if Pg.tooDeep (Pg.readParts (Y5 s) s.size).ps 0=-1 then
   (if Pg.falling (Pg.readParts (Y5 s) s.size).ps=-1 then
    (if Pg.matchless (Pg.readParts (Y5 s) s.size).ps=-1 then (0,0) else (6,Pg.matchless (Pg.readParts (Y5 s) s.size).ps))
   else (5,Pg.falling (Pg.readParts (Y5 s) s.size).ps))
  else (4,Pg.tooDeep (Pg.readParts (Y5 s) s.size).ps 0))
  else (3,(Pg.readParts (Y5 s) s.size).n):=by rw[Pg.wrong,if_neg (by omega)]
 rw[hw];have hc:=Sd s ((s.size:Int).toNat+1) 0 0 0 0 [] (by omega) (by omega) (by omega);have hm0:XF 0=0:=rfl;rw[hm0,List.drop_zero]at hc;have hR:Pg.partsFrom (Y5 s) s.size ((s.size:Int).toNat+1) 0 0 ((0:Nat):Int) []=Pg.readParts (Y5 s) s.size:=rfl;rw[hR]at hc;rcases hc with ⟨h1,h2,h3⟩|⟨ps,h1,h2,h3,h4,⟨cv,h5⟩,⟨ce,h6⟩,h7⟩
 ·rw[h1];simp only[Bool.false_eq_true,if_false];have hf:Rf.form s.data.toList=(Pg.readParts (Y5 s) s.size).n:=h2;exact⟨Or.inr ⟨by omega,Or.inl ⟨by rw[hf];exact h3,rfl,hf.symm⟩⟩,fun h=>by simp at h⟩
 ·rw[List.nil_append]at h2;rw[h1,h2];simp only[if_true];have hf:Rf.form s.data.toList<0:=by
   have:Rf.form s.data.toList=-1:=h3;omega
  have hdp:Rf.deep s.data.toList=Pg.tooDeep ps 0:=h4 (by omega);have hbd:∀(ps:List Pg.Pt) (op:Int),(∀p∈ps,0<=p.pl/\-1<=p.fa)->(Pg.tooDeep ps op=-1\/0<=Pg.tooDeep ps op)/\(Pg.falling ps=-1\/0<=Pg.falling ps)/\(Pg.matchless ps=-1\/0<=Pg.matchless ps):=by
   intro ps
   induction ps with
   |nil=>intro op _;exact⟨Or.inl rfl,Or.inl rfl,Or.inl rfl⟩
   |cons p ps ih=>
    intro op hp;obtain⟨i1,i2,i3⟩:=ih (Pg.opens p.kd op) (fun q hq=>hp q (by simp[hq]));obtain⟨p1,p2⟩:=hp p (by simp);refine⟨?_,?_,?_⟩
    ·rw[Pg.tooDeep];split
     ·exact Or.inr p1
     ·exact i1
    ·rw[Pg.falling];split
     ·exact i2
     ·exact Or.inr (by omega)
    ·rw[Pg.matchless];split
     ·exact Or.inr p1
     ·exact i3
  obtain⟨b1,b2,b3⟩:=hbd ps 0 h7;by_cases hD:Pg.tooDeep ps 0=-1
  ·rw[if_pos hD];by_cases hF:Pg.falling ps=-1
   ·rw[if_pos hF];have hV:=h5 0;have hE:=h6 0;by_cases hM:Pg.matchless ps=-1
    ·rw[if_pos hM];exact⟨Or.inr ⟨by omega,Or.inr ⟨hf,Or.inr ⟨by rw[hdp,hD];decide,_,_,hV,Or.inr ⟨by rw[hF];decide,_,_,hE,Or.inr ⟨by rw[hM];decide,rfl,rfl⟩⟩⟩⟩⟩,fun _=>⟨rfl,by omega,trivial⟩⟩
    ·rw[if_neg hM];exact⟨Or.inr ⟨by omega,Or.inr ⟨hf,Or.inr ⟨by rw[hdp,hD];decide,_,_,hV,Or.inr ⟨by rw[hF];decide,_,_,hE,Or.inl ⟨by omega,rfl,rfl⟩⟩⟩⟩⟩,fun h=>by simp at h⟩
   ·rw[if_neg hF];exact⟨Or.inr ⟨by omega,Or.inr ⟨hf,Or.inr ⟨by rw[hdp,hD];decide,_,_,h5 0,Or.inl ⟨by omega,rfl,rfl⟩⟩⟩⟩,fun h=>by simp at h⟩
  ·rw[if_neg hD];exact⟨Or.inr ⟨by omega,Or.inr ⟨hf,Or.inl ⟨by omega,rfl,hdp.symm⟩⟩⟩,fun h=>by simp at h⟩
theorem Ri {u:Nat->Int}:∀n,(∀i,i<n->0<=u i)->0<=X8 u n
 |0,_=>Int.le_refl _
 |n+1,h=>by simp only[X8];have:=Ri n (fun i hi=>h i (by omega));have:=h n (by omega);omega
theorem LS {u v:Nat->Int}:∀n,(∀i,i<n->0<=v i/\u i=Pg.capped (v i))->(96<X8 u n<->96<X8 v n)/\(¬96<X8 v n->X8 u n=X8 v n)
 |0,_=>⟨Iff.rfl,fun _=>rfl⟩
 |n+1,h=>by
  obtain⟨h1,h2⟩:=LS n (fun i hi=>h i (by omega));obtain⟨v0,hu⟩:=h n (by omega);have s1:=Ri n (fun i hi=>(h i (by omega)).1);have s2:0<=X8 u n:=Ri n (fun i hi=>by rw[(h i (by omega)).2];exact Wd (h i (by omega)).1);simp only[X8];rw[hu,WG];split
  ·constructor
   ·omega
   ·intro;omega
  ·by_cases hs:96<X8 v n
   ·have:=h1.2 hs;constructor
    ·omega
    ·intro;omega
   ·have:=h2 hs;constructor
    ·omega
    ·intro;omega
end Go.Proofs.YtoaaklhpmhjhkabGreat
