import Derived.Test.YtoaaklhpmhjhkaaGreatC22
set_option maxRecDepth 100000
set_option maxHeartbeats 4000000
set_option linter.all false
namespace Go.Proofs.YtoaaklhpmhjhkaaGreat
open Go.RowKit
structure Tk where
 w:List UInt8
 kd:Int
 mo:Int
def txt (ts:List Tk):List UInt8:=ts.flatMap (·.w)
theorem q0K (a b:List Tk):txt (a++b)=txt a++txt b:=by simp[txt]
theorem q0P (t:Tk) (b:List Tk):txt (t::b)=t.w++txt b:=by simp[txt]
def Special (c:UInt8):Prop:=c=92\/c=91\/c=123\/c=40\/c=41\/c=124\/c=42\/c=43\/c=63\/c=93\/c=125
def IsPlaceW (w:List UInt8):Prop:=
 (∃c,w=[c]/\¬Special c)\/(∃e v,w=92::e/\∀r,Rf.one (92::(e++r))=some (v,e.length+1)) \/
 (∃e,w=91::e/\∀r i,∃fa inn,Rf.set (e++r) i=some (i+(e.length+1),fa,inn))
def IsCountW (w:List UInt8) (mo:Int):Prop:=
 (∃x:UInt8,w=[123,x,125]/\48<=(x.toNat:Int)/\(x.toNat:Int)<=57/\mo=(x.toNat:Int)-48) \/
 (∃x z:UInt8,w=[123,x,44,z,125]/\48<=(x.toNat:Int)/\(x.toNat:Int)<=57/\48<=(z.toNat:Int)/\(z.toNat:Int)<=57/\mo=(z.toNat:Int)-48)
def TkOK (t:Tk):Prop:=
 (t.kd=1/\IsPlaceW t.w)\/(t.kd=2/\t.w=[40])\/(t.kd=3/\t.w=[41])\/(t.kd=4/\t.w=[124])\/(t.kd=5/\t.w=[42])\/(t.kd=6/\t.w=[43])\/(t.kd=7/\t.w=[63])\/(t.kd=8/\IsCountW t.w t.mo)
def isSuf (t:Tk):Prop:=t.kd=5\/t.kd=6\/t.kd=7\/t.kd=8
def Is:Nat->Bool->List Tk->Int->Prop
 |0,_,_,_=>False
 |f+1,true,ts,V=>(ts=[]/\V=0)\/(∃t r,ts=t::r/\TkOK t/\t.kd=4/\Is f true r V) \/
   (∃p r A B,ts=p++r/\Is f false p A/\Is f true r B/\V=A+B/\∀t r',r=t::r'->¬isSuf t)
 |f+1,false,ts,V=>(∃t,ts=[t]/\TkOK t/\t.kd=1/\V=1)\/(∃a inn b,ts=a::(inn++[b])/\TkOK a/\a.kd=2/\TkOK b/\b.kd=3/\Is f true inn V) \/
   (∃q t A,ts=q++[t]/\Is f false q A/\TkOK t/\isSuf t/\V=if t.kd=8 then A*t.mo else A)
theorem y3g:∀(f:Nat) (g:Bool) (ts:List Tk) (V:Int),Is f g ts V->Is (f+1) g ts V:=by
 intro f
 induction f with
 |zero=>intro g ts V h;exact absurd h (by simp[Is])
 |succ f ih=>
  intro g ts V h;cases g
  ·unfold Is at h ⊢;rcases h with h|⟨a,inn,b,c,d,e,i,j,k⟩|⟨q,t,A,c,d,e,i,j⟩
   ·exact Or.inl h
   ·exact Or.inr (Or.inl ⟨a,inn,b,c,d,e,i,j,ih _ _ _ k⟩)
   exact Or.inr (Or.inr ⟨q,t,A,c,ih _ _ _ d,e,i,j⟩)
  unfold Is at h ⊢;rcases h with h|⟨t,r,c,d,e,i⟩|⟨p,r,A,B,c,d,e,i,j⟩
  ·exact Or.inl h
  ·exact Or.inr (Or.inl ⟨t,r,c,d,e,ih _ _ _ i⟩)
  exact Or.inr (Or.inr ⟨p,r,A,B,c,ih _ _ _ d,ih _ _ _ e,i,j⟩)
variable {mo : Int}{p r : List UInt8}{f g i : Nat}{c : UInt8}
theorem q6J {b:Bool}{ts:List Tk}{V:Int} (h:Is f b ts V) (hfg:f<=g):Is g b ts V:=by
 induction g with
 |zero=>
   have:f=0:=by omega
   subst this;exact h
 |succ g ih=>
  by_cases e:f=g+1
  ·subst e;exact h
  exact y3g _ _ _ _ (ih (by omega))
def Val:List Tk->Int->Int->Prop
 |[],_,op=>op=0
 |t::r,bf,op=>TkOK t/\Pg.canStand t.kd bf op=true/\Val r t.kd (Pg.opens t.kd op)
theorem y1E {t:Tk} (h:TkOK t):t.kd=1\/t.kd=2\/t.kd=3\/t.kd=4\/isSuf t:=by
 unfold isSuf;rcases h with h|h|h|h|h|h|h|h<;>omega
theorem q7g {t:Tk} (h:isSuf t) (op:Int):Pg.opens t.kd op=op:=by
 unfold Pg.opens isSuf at *;rw[if_neg (by omega),if_neg (by omega)]
theorem peel:∀(r:List Tk) (f:Nat) (q:List Tk) (A bf op:Int),Is f false q A->Val r bf op ->
  ∃f' q' A' r' bf',q++r=q'++r'/\Is f' false q' A'/\Val r' bf' op/\r'.length<=r.length/\∀t r'',r'=t::r''->¬isSuf t:=by
 intro r
 induction r with
 |nil=>intro f q A bf op h a;exact⟨f,q,A,[],bf,rfl,h,a,Nat.le_refl _,by simp⟩
 |cons t r ih=>
  intro f q A bf op h a;by_cases hs:isSuf t
  ·obtain⟨i,l,b⟩:=a;rw[q7g hs]at b;have j:Is (f+1) false (q++[t]) (if t.kd=8 then A*t.mo else A):=Or.inr (Or.inr ⟨q,t,A,rfl,h,i,hs,rfl⟩);obtain⟨f',q',A',r',bf',c,e2,d,k,g⟩:=ih (f+1) (q++[t]) _ _ op j b;exact⟨f',q',A',r',bf',by rw[<-c];simp,e2,d,by simp;omega,g⟩
  exact⟨f,q,A,t::r,bf,rfl,h,a,Nat.le_refl _,λm r'' e=>by cases e;exact hs⟩
theorem parse:∀(n:Nat) (ts:List Tk) (bf op:Int),ts.length<=n->0<=op->Val ts bf op->(∀t r,ts=t::r->¬isSuf t) ->
  ∃f inn rest V,ts=inn++rest/\Is f true inn V/\((rest=[]/\op=0)\/(∃b r,rest=b::r/\TkOK b/\b.kd=3/\0<op/\Val r 3 (op-1))):=by
 intro n
 induction n with
 |zero=>
  intro ts bf op s w u _;have:ts=[]:=List.eq_nil_of_length_eq_zero (by omega);subst this;exact⟨1,[],[],0,rfl,Or.inl ⟨rfl,rfl⟩,Or.inl ⟨rfl,u⟩⟩
 |succ n ih=>
  intro ts bf op s w u x;rcases ts with _|⟨t,r⟩
  ·exact⟨1,[],[],0,rfl,Or.inl ⟨rfl,rfl⟩,Or.inl ⟨rfl,u⟩⟩
  obtain⟨o,F,d⟩:=u;simp only[List.length_cons]at s;have go:∀(f:Nat) (q p:List Tk) (A i:Int),Is f false q A->Val p i op->p.length<=n->t::r=q++p ->
    ∃f inn rest V,t::r=inn++rest/\Is f true inn V/\((rest=[]/\op=0)\/(∃b r,rest=b::r/\TkOK b/\b.kd=3/\0<op/\Val r 3 (op-1))):=by
   intro f q p A i M y L K;obtain⟨f',H,D,z,v,I,e2,J,Q,E⟩:=peel p f q A i op M y;obtain⟨k,inn,rest,V,j,l,m⟩:=ih z v op (by omega) w J E;refine⟨max f' k+1,H++inn,rest,D+V,by rw[K,I,j,List.append_assoc],Or.inr (Or.inr ⟨H,inn,D,V,rfl,q6J e2 (Nat.le_max_left _ _),q6J l (Nat.le_max_right _ _),rfl,?_⟩),m⟩;intro C B e;exact E C (B++rest) (by rw[j,e];rfl)
  rcases y1E o with c|c|c|c|c
  ·rw[c]at d;exact go 1 [t] r 1 1 (Or.inl ⟨t,rfl,o,c,rfl⟩) d (by omega) rfl
  ·rw[c]at d;have a:=d;obtain⟨k,inn,rest,V,j,l,m⟩:=ih r 2 (op+1) (by omega) (by omega) a (by
    intro C z e hs;rw[e]at a;have:=a.2.1;unfold isSuf at hs;simp[Pg.canStand,Pg.endsPiece,Pg.isSuffix]at this;rcases hs with h|h|h|h<;>simp[h]at this)
   rcases m with ⟨_,g⟩|⟨b,P,rfl,N,O,R,G⟩
   ·omega
   rw[show op+1-1=op by omega]at G;refine go (k+1) (t::(inn++[b])) P V 3 (Or.inr (Or.inl ⟨t,inn,b,rfl,o,c,N,O,l⟩)) G ?_ (by rw[j];simp);rw[j]at s;simp at s;omega
  ·refine⟨1,[],t::r,0,rfl,Or.inl ⟨rfl,rfl⟩,Or.inr ⟨t,r,rfl,o,c,?_,?_⟩⟩
   ·rw[c]at F;simpa[Pg.canStand]using F
   rw[c]at d;exact d
  ·rw[c]at d;have a:=d;obtain⟨k,inn,rest,V,j,l,m⟩:=ih r 4 op (by omega) w a (by
    intro C z e hs;rw[e]at a;have:=a.2.1;unfold isSuf at hs;simp[Pg.canStand,Pg.endsPiece,Pg.isSuffix]at this;rcases hs with h|h|h|h<;>simp[h]at this)
   exact⟨k+1,t::inn,rest,V,by rw[j];rfl,Or.inr (Or.inl ⟨t,inn,rfl,o,c,l⟩),m⟩
  exact absurd c (x t r rfl)
def ptOf (t:Tk):Pg.Pt:=⟨t.kd,0,λ_=>false,0,t.mo,0⟩
theorem q1P (n:Int):Pg.capped n=if 96<n then 97 else n:=rfl
theorem q2K {a b:Int} (_ha:0<=a) (hb:0<=b):Pg.capped (Pg.capped a+b)=Pg.capped (a+b):=by
 simp only[q1P];repeat' split
 all_goals omega
theorem q9M {a m:Int} (_ha:0<=a) (hm:0<=m):Pg.capped (Pg.capped a*m)=Pg.capped (a*m):=by
 by_cases h:96<a
 ·rw[q1P a,if_pos h];by_cases b:m=0
  ·subst b;simp
  have c:97*1<=97*m:=Int.mul_le_mul_of_nonneg_left (by omega) (by omega);have d:97*m<=a*m:=Int.mul_le_mul_of_nonneg_right (by omega) hm;rw[q1P,q1P,if_pos (by omega),if_pos (by omega)]
 rw[q1P a,if_neg h]
theorem q2i {a:Int} (ha:0<=a):0<=Pg.capped a:=(Pg.capped_le a ha).1
theorem q8b {t:Tk} (h:TkOK t) (h8:t.kd=8):0<=t.mo/\IsCountW t.w t.mo:=by
 have a:IsCountW t.w t.mo:=by
  rcases h with h|h|h|h|h|h|h|h
  all_goals first|(exact absurd h.1 (by omega))|exact h.2
 refine⟨?_,a⟩;rcases a with ⟨x,_,b,c,d⟩|⟨x,z,_,_,_,b,c,d⟩<;>omega
theorem q2Y (a b:List Pg.Pt):∀c,Pg.cRun (a++b) c=Pg.cRun b (Pg.cRun a c):=by
 induction a with
 |nil=>intro c;rfl
 |cons p r ih=>intro c;simp only[List.cons_append,Pg.cRun];exact ih _
theorem machine:∀(f:Nat) (g:Bool) (ts:List Tk) (V:Int),Is f g ts V->0<=V /\
  (g=false->∀c:Pg.C,0<=c.ah->0<=c.la->Pg.cRun (ts.map ptOf) c=⟨Pg.capped (c.ah+c.la),Pg.capped V,c.st⟩) /\
  (g=true->∀c:Pg.C,0<=c.ah->0<=c.la->∃ah la,Pg.cRun (ts.map ptOf) c=⟨ah,la,c.st⟩/\0<=ah/\0<=la/\Pg.capped (ah+la)=Pg.capped (c.ah+c.la+V)):=by
 intro f
 induction f with
 |zero=>intro g ts V h;exact absurd h (by simp[Is])
 |succ f ih=>
  intro g ts V h;cases g
  ·unfold Is at h;rcases h with ⟨t,rfl,e,d,rfl⟩|⟨a,inn,b,rfl,e,d,s,w,x⟩|⟨q,t,A,rfl,e,d,s,rfl⟩
   ·refine⟨by omega,λ_ c E e=>?_,λh=>by cases h⟩;simp only[List.map_cons,List.map_nil,Pg.cRun,Pg.cStep,ptOf,d,if_true];rfl
   ·obtain⟨k,_,n⟩:=ih true inn V x;refine⟨k,λ_ c c1 c2=>?_,λh=>by cases h⟩;obtain⟨ah,la,l,e2,o,m⟩:=n rfl ⟨0,0,Pg.capped (c.ah+c.la)::c.st⟩ (by simp) (by simp);simp only[List.map_cons,List.map_append,List.map_nil,Pg.cRun];have v:Pg.cStep c (ptOf a)=⟨0,0,Pg.capped (c.ah+c.la)::c.st⟩:=by simp[Pg.cStep,ptOf,d]
    rw[v,q2Y,l];simp only[Pg.cRun];have D:Pg.cStep ⟨ah,la,Pg.capped (c.ah+c.la)::c.st⟩ (ptOf b)=⟨Pg.capped (c.ah+c.la),Pg.capped (ah+la),c.st⟩:=by simp[Pg.cStep,ptOf,w]
    rw[D,m];simp
   obtain⟨j,u,_⟩:=ih false q A e;have k:0<=(if t.kd=8 then A*t.mo else A):=by
    split
    ·rename_i i;exact Int.mul_nonneg j (q8b d i).1
    exact j
   refine⟨k,λ_ c c1 c2=>?_,λh=>by cases h⟩;rw[List.map_append,q2Y,u rfl c c1 c2];simp only[List.map_cons,List.map_nil,Pg.cRun];by_cases i:t.kd=8
   ·rw[if_pos i];simp only[Pg.cStep,ptOf,i];rw[if_neg (by decide),if_neg (by decide),if_neg (by decide),if_neg (by decide),if_pos trivial,q9M j (q8b d i).1]
   rw[if_neg i];unfold isSuf at s;unfold Pg.cStep;rw[if_neg (show ¬(ptOf t).kd=1 by simp only[ptOf];omega),if_neg (show ¬(ptOf t).kd=2 by simp only[ptOf];omega),if_neg (show ¬(ptOf t).kd=3 by simp only[ptOf];omega),if_neg (show ¬(ptOf t).kd=4 by simp only[ptOf];omega),if_neg (show ¬(ptOf t).kd=8 from i)]
  unfold Is at h;rcases h with ⟨rfl,rfl⟩|⟨t,r,rfl,e,d,s⟩|⟨p,r,A,B,rfl,e,d,rfl,w⟩
  ·refine⟨by omega,(λh=>by cases h),λ_ c c1 c2=>⟨c.ah,c.la,rfl,c1,c2,by simp⟩⟩
  ·obtain⟨k,_,n⟩:=ih true r V s;refine⟨k,(λh=>by cases h),λ_ c c1 c2=>?_⟩;obtain⟨ah,la,l,e2,o,m⟩:=n rfl ⟨Pg.capped (c.ah+c.la),0,c.st⟩ (q2i (by omega)) (by simp);refine⟨ah,la,?_,e2,o,?_⟩
   ·simp only[List.map_cons,Pg.cRun];have v:Pg.cStep c (ptOf t)=⟨Pg.capped (c.ah+c.la),0,c.st⟩:=by simp[Pg.cStep,ptOf,d]
    rw[v,l]
   rw[m];simp only[Int.add_zero];exact q2K (by omega) k
  obtain⟨j,u,_⟩:=ih false p A e;obtain⟨F,_,n⟩:=ih true r B d;refine⟨by omega,(λh=>by cases h),λ_ c c1 c2=>?_⟩;obtain⟨ah,la,l,e2,o,m⟩:=n rfl ⟨Pg.capped (c.ah+c.la),Pg.capped A,c.st⟩ (q2i (by omega)) (q2i j);refine⟨ah,la,by rw[List.map_append,q2Y,u rfl c c1 c2,l],e2,o,?_⟩;rw[m];simp only;have y:=q2K (a:=c.ah+c.la) (b:=Pg.capped A+B) (by omega) (by have:=q2i j;omega);have z:=q2K (a:=A) (b:=c.ah+c.la+B) j (by omega);rw[show Pg.capped (c.ah+c.la)+Pg.capped A+B=Pg.capped (c.ah+c.la)+(Pg.capped A+B) by omega,y,show c.ah+c.la+(Pg.capped A+B)=Pg.capped A+(c.ah+c.la+B) by omega,z];congr 1;omega
theorem q6u {t:Tk} (h:TkOK t) (h3:t.kd≠3):∃C,C<=t.w.length/\1<=t.w.length/\∀(p:List UInt8) (i v:Nat) (o:Int) (r:List UInt8),p.drop i=t.w++r->Rf.groupFrom p (v+C) i o=Rf.groupFrom p v (i+t.w.length) (Pg.opens t.kd o):=by
 have one:∀(c:UInt8) (p:List UInt8) (i v:Nat) (o:Int) (r:List UInt8),c≠92->c≠91->c≠40->c≠41->p.drop i=c::r->Rf.groupFrom p (v+1) i o=Rf.groupFrom p v (i+1) o:=by
  intro c p i v o r G H I J b;rw[Rf.groupFrom,b];simp only[if_neg G,if_neg H,if_neg I,if_neg J]
 rcases h with ⟨d,h⟩|⟨d,a⟩|⟨d,a⟩|⟨d,a⟩|⟨d,a⟩|⟨d,a⟩|⟨d,a⟩|⟨d,h⟩
 ·have g:∀o,Pg.opens t.kd o=o:=λo=>by simp[Pg.opens,d]
  rcases h with ⟨c,a,hs⟩|⟨e,v0,a,j⟩|⟨e,a,k⟩
  ·refine⟨1,by simp[a],by simp[a],λp i v o r b=>?_⟩;rw[g,a];rw[a]at b;unfold Special at hs;exact one c p i v o r (λe=>hs (by simp[e])) (λe=>hs (by simp[e])) (λe=>hs (by simp[e])) (λe=>hs (by simp[e])) b
  ·refine⟨1,by simp[a],by simp[a],λp i v o r b=>?_⟩;rw[g,a];rw[a]at b;rw[Rf.groupFrom,b];simp only[List.cons_append];rw[if_pos trivial,j r];rfl
  refine⟨1,by simp[a],by simp[a],λp i v o r b=>?_⟩;rw[g,a];rw[a]at b;obtain⟨fa,inn,hs⟩:=k r i;rw[Rf.groupFrom,b];simp only[List.cons_append];rw[if_neg (by decide),if_pos trivial,hs];rfl
 ·refine⟨1,by simp[a],by simp[a],λp i v o r b=>?_⟩;rw[a]at b;rw[Rf.groupFrom,b,a];simp[Pg.opens,d]
 ·exact absurd d h3
 ·refine⟨1,by simp[a],by simp[a],λp i v o r b=>?_⟩;rw[a]at b;rw[show Pg.opens t.kd o=o by simp[Pg.opens,d],a];exact one 124 p i v o r (by decide) (by decide) (by decide) (by decide) b
 ·refine⟨1,by simp[a],by simp[a],λp i v o r b=>?_⟩;rw[a]at b;rw[show Pg.opens t.kd o=o by simp[Pg.opens,d],a];exact one 42 p i v o r (by decide) (by decide) (by decide) (by decide) b
 ·refine⟨1,by simp[a],by simp[a],λp i v o r b=>?_⟩;rw[a]at b;rw[show Pg.opens t.kd o=o by simp[Pg.opens,d],a];exact one 43 p i v o r (by decide) (by decide) (by decide) (by decide) b
 ·refine⟨1,by simp[a],by simp[a],λp i v o r b=>?_⟩;rw[a]at b;rw[show Pg.opens t.kd o=o by simp[Pg.opens,d],a];exact one 63 p i v o r (by decide) (by decide) (by decide) (by decide) b
 have g:∀o,Pg.opens t.kd o=o:=λo=>by simp[Pg.opens,d]
 have f:∀x:UInt8,48<=(x.toNat:Int)->(x.toNat:Int)<=57->x≠92/\x≠91/\x≠40/\x≠41:=by
  intro x E F;refine⟨?_,?_,?_,?_⟩<;>(intro e;subst e;revert E F;decide)
 rcases h with ⟨x,a,y,A,_⟩|⟨x,z,a,y,A,O,P,_⟩
 ·refine⟨3,by simp[a],by simp[a],λp i v o r b=>?_⟩;rw[a]at b;obtain⟨n,q,s,u⟩:=f x y A;have l:p.drop (i+1)=x::125::r:=by rw[<-q0n,b];rfl
  have m:p.drop (i+2)=125::r:=by rw[<-q0n,b];rfl
  rw[g,a,show v+3=v+2+1 by omega,one 123 p i _ o _ (by decide) (by decide) (by decide) (by decide) b,show v+2=v+1+1 by omega,one x p _ _ o _ n q s u l,one 125 p _ _ o _ (by decide) (by decide) (by decide) (by decide) m];rfl
 refine⟨5,by simp[a],by simp[a],λp i v o r b=>?_⟩;rw[a]at b;obtain⟨n,q,s,u⟩:=f x y A;obtain⟨K,L,M,N⟩:=f z O P;have l:p.drop (i+1)=x::44::z::125::r:=by rw[<-q0n,b];rfl
 have m:p.drop (i+2)=44::z::125::r:=by rw[<-q0n,b];rfl
 have B:p.drop (i+3)=z::125::r:=by rw[<-q0n,b];rfl
 have D:p.drop (i+4)=125::r:=by rw[<-q0n,b];rfl
 rw[g,a,show v+5=v+4+1 by omega,one 123 p i _ o _ (by decide) (by decide) (by decide) (by decide) b,show v+4=v+3+1 by omega,one x p _ _ o _ n q s u l,show v+3=v+2+1 by omega,one 44 p _ _ o _ (by decide) (by decide) (by decide) (by decide) m,show v+2=v+1+1 by omega,one z p _ _ o _ K L M N B,one 125 p _ _ o _ (by decide) (by decide) (by decide) (by decide) D];rfl
theorem grp:∀(f:Nat) (g:Bool) (ts:List Tk) (V:Int),Is f g ts V->∃C,C<=(txt ts).length/\∀(p:List UInt8) (i v:Nat) (o:Int) (r:List UInt8),1<=o->p.drop i=txt ts++r->Rf.groupFrom p (v+C) i o=Rf.groupFrom p v (i+(txt ts).length) o:=by
 intro f
 induction f with
 |zero=>intro g ts V h;exact absurd h (by simp[Is])
 |succ f ih=>
  have d:∀(a b:List UInt8) (j n:Nat),(∀(p:List UInt8) (i v:Nat) (o:Int) (r:List UInt8),1<=o->p.drop i=a++r->Rf.groupFrom p (v+j) i o=Rf.groupFrom p v (i+a.length) o) ->
    (∀(p:List UInt8) (i v:Nat) (o:Int) (r:List UInt8),1<=o->p.drop i=b++r->Rf.groupFrom p (v+n) i o=Rf.groupFrom p v (i+b.length) o) ->
    ∀(p:List UInt8) (i v:Nat) (o:Int) (r:List UInt8),1<=o->p.drop i=(a++b)++r->Rf.groupFrom p (v+(j+n)) i o=Rf.groupFrom p v (i+(a++b).length) o:=by
   intro a b j n ha M p i v o r e c;rw[show v+(j+n)=(v+n)+j by omega,ha p i (v+n) o (b++r) e (by rw[c,List.append_assoc]),M p (i+a.length) v o r e (by rw[<-q0n,c,List.append_assoc,List.drop_left])];rw[List.length_append,Nat.add_assoc]
  intro g ts V h;cases g
  ·unfold Is at h;rcases h with ⟨t,rfl,k,l,_⟩|⟨a,inn,b,rfl,k,l,s,K,L⟩|⟨q,t,A,rfl,k,l,s,_⟩
   ·obtain⟨C,c1,c2,c3⟩:=q6u k (by omega);refine⟨C,by simpa[txt]using c1,λp i v o r e c=>?_⟩;have:=c3 p i v o r (by simpa[txt]using c);rw[this,show Pg.opens t.kd o=o by simp[Pg.opens,l]];simp[txt]
   ·obtain⟨j,R,S,J⟩:=q6u k (by omega);obtain⟨D,T,N⟩:=ih true inn V L;have m:b.w=[41]:=by
     rcases s with h|h|h|h|h|h|h|h
     all_goals first|(exact absurd h.1 (by omega))|exact h.2
    refine⟨j+D+1,by simp[txt,m]at *;omega,λp i v o r e c=>?_⟩;have x:p.drop i=a.w++(txt inn++(41::r)):=by
     rw[c,q0P,q0K];simp[txt,m]
    have y:p.drop (i+a.w.length)=txt inn++(41::r):=by rw[<-q0n,x,List.drop_left]
    have E:p.drop (i+a.w.length+(txt inn).length)=41::r:=by rw[<-q0n,y,List.drop_left]
    rw[show v+(j+D+1)=(v+1+D)+j by omega,J p i _ o _ x,show Pg.opens a.kd o=o+1 by simp[Pg.opens,l],N p _ _ (o+1) _ (by omega) y,Rf.groupFrom,E];simp only;rw[if_neg (by decide),if_neg (by decide),if_neg (by decide),if_pos trivial,if_neg (by omega),show o+1-1=o by omega];congr 1;rw[q0P,q0K];simp[txt,m];omega
   obtain⟨H,W,P⟩:=ih false q A k;obtain⟨C,c1,c2,c3⟩:=q6u l (by unfold isSuf at s;omega);refine⟨H+C,by rw[q0K];simp[txt]at *;omega,λp i v o r e c=>?_⟩;rw[q0K]at c ⊢;refine d (txt q) (txt [t]) H C P ?_ p i v o r e c;intro p i v o r e c;have:=c3 p i v o r (by simpa[txt]using c);rw[this,q7g s];simp[txt]
  unfold Is at h;rcases h with ⟨rfl,_⟩|⟨t,z,rfl,k,l,s⟩|⟨I,z,A,B,rfl,k,l,_,K⟩
  ·exact⟨0,by simp,λp i v o r e c=>by simp[txt]⟩
  ·obtain⟨C,c1,c2,c3⟩:=q6u k (by omega);obtain⟨u,Q,F⟩:=ih true z V s;refine⟨C+u,by rw[q0P,List.length_append];omega,λp i v o r e c=>?_⟩;rw[q0P]at c ⊢;refine d t.w (txt z) C u ?_ F p i v o r e c;intro p i v o r e c;rw[c3 p i v o r c,show Pg.opens t.kd o=o by simp[Pg.opens,l]]
  obtain⟨G,U,O⟩:=ih false I A k;obtain⟨u,Q,F⟩:=ih true z B l;refine⟨G+u,by rw[q0K,List.length_append];omega,λp i v o r e c=>?_⟩;rw[q0K]at c ⊢;exact d (txt I) (txt z) G u O F p i v o r e c
theorem y3I:∀(f:Nat) (g:Bool) (ts:List Tk) (V:Int),Is f g ts V->∀t∈ts,TkOK t:=by
 intro f
 induction f with
 |zero=>intro g ts V h;exact absurd h (by simp[Is])
 |succ f ih=>
  intro g ts V h t c;cases g
  ·unfold Is at h;rcases h with ⟨j,rfl,d,_,_⟩|⟨a,inn,b,rfl,d,_,i,_,k⟩|⟨q,j,A,rfl,d,e,_,_⟩
   ·rw[List.mem_singleton]at c;subst c;exact d
   ·simp only[List.mem_cons,List.mem_append,List.not_mem_nil,or_false]at c;rcases c with rfl|c|rfl
    ·exact d
    ·exact ih _ _ _ k t c
    exact i
   simp only[List.mem_append,List.mem_singleton]at c;rcases c with c|rfl
   ·exact ih _ _ _ d t c
   exact e
  unfold Is at h;rcases h with ⟨rfl,_⟩|⟨j,r,rfl,d,_,i⟩|⟨p,r,A,B,rfl,d,e,_,_⟩
  ·exact absurd c (by simp)
  ·rcases List.mem_cons.1 c with rfl|c
   ·exact d
   exact ih _ _ _ i t c
  rcases List.mem_append.1 c with c|c
  ·exact ih _ _ _ d t c
  exact ih _ _ _ e t c
def sufB (c:UInt8):Bool:=Rf.has Rf.suffixes c.toNat
theorem y1j (c:UInt8):sufB c=true<->(c=42\/c=43\/c=63\/c=123):=by
 have h:∀d:UInt8,((d.toNat:Int)==(c.toNat:Int))=true<->c=d:=by
  intro d;rw[beq_iff_eq];constructor
  ·intro h;exact(UInt8.toNat_inj.1 (by omega))
  intro h;rw[h]
 simp only[sufB,Rf.has,Rf.suffixes,Bool.or_eq_true,h,Bool.false_eq_true,or_false]
theorem q1k {t:Tk} (h:TkOK t):∃c w,t.w=c::w/\(sufB c=true<->isSuf t)/\(c=124<->t.kd=4)/\(c=40<->t.kd=2)/\(c=123<->t.kd=8):=by
 have a:∀(c:UInt8) (w:List UInt8) (k:Int),t.w=c::w->t.kd=k->(sufB c=true<->(k=5\/k=6\/k=7\/k=8))->(c=124<->k=4)->(c=40<->k=2)->(c=123<->k=8) ->
   ∃c w,t.w=c::w/\(sufB c=true<->isSuf t)/\(c=124<->t.kd=4)/\(c=40<->t.kd=2)/\(c=123<->t.kd=8):=by
  intro c w k g f i j l m;refine⟨c,w,g,?_,?_,?_,?_⟩
  ·unfold isSuf;rw[f];exact i
  ·rw[f];exact j
  ·rw[f];exact l
  rw[f];exact m
 rcases h with ⟨d,h⟩|⟨d,b⟩|⟨d,b⟩|⟨d,b⟩|⟨d,b⟩|⟨d,b⟩|⟨d,b⟩|⟨d,h⟩
 ·rcases h with ⟨c,b,hs⟩|⟨e,v0,b,_⟩|⟨e,b,_⟩
  ·unfold Special at hs;refine a c [] 1 b d ?_ ?_ ?_ ?_
   ·rw[y1j];constructor
    ·intro h;exact absurd (by rcases h with h|h|h|h<;>simp[h]) hs
    intro h;omega
   ·constructor
    ·intro h;exact absurd (by simp[h]) hs
    intro h;omega
   ·constructor
    ·intro h;exact absurd (by simp[h]) hs
    intro h;omega
   constructor
   ·intro h;exact absurd (by simp[h]) hs
   intro h;omega
  ·exact a 92 e 1 b d (by decide) (by decide) (by decide) (by decide)
  exact a 91 e 1 b d (by decide) (by decide) (by decide) (by decide)
 ·exact a 40 [] 2 b d (by decide) (by decide) (by decide) (by decide)
 ·exact a 41 [] 3 b d (by decide) (by decide) (by decide) (by decide)
 ·exact a 124 [] 4 b d (by decide) (by decide) (by decide) (by decide)
 ·exact a 42 [] 5 b d (by decide) (by decide) (by decide) (by decide)
 ·exact a 43 [] 6 b d (by decide) (by decide) (by decide) (by decide)
 ·exact a 63 [] 7 b d (by decide) (by decide) (by decide) (by decide)
 rcases h with ⟨x,b,_⟩|⟨x,z,b,_⟩
 ·exact a 123 _ 8 b d (by decide) (by decide) (by decide) (by decide)
 exact a 123 _ 8 b d (by decide) (by decide) (by decide) (by decide)
theorem q1L (hd:p.drop i=c::r) (h:c≠125):Rf.closeFrom p (f+1) i=Rf.closeFrom p f (i+1):=by
 rw[Rf.closeFrom,hd];simp only[if_neg h]
theorem q5z (hd:p.drop i=125::r):Rf.closeFrom p (f+1) i=some (i+1):=by
 rw[Rf.closeFrom,hd];simp only[if_true]
theorem q4H {l:List UInt8} (hd:p.drop i=l):l.length=p.length-i:=by
 rw[<-hd];simp
theorem q5Q {t:Tk} (h:TkOK t) (hs:isSuf t) (p:List UInt8) (i:Nat) (r:List UInt8) (hd:p.drop i=t.w++r):Rf.suffixed p i=some (i+t.w.length):=by
 have one:∀c:UInt8,c≠123->t.w=[c]->Rf.suffixed p i=some (i+t.w.length):=by
  intro c u a;rw[a]at hd ⊢;rw[Rf.suffixed,hd];simp only[List.cons_append,if_neg u];rfl
 unfold isSuf at hs;rcases h with ⟨d,_⟩|⟨d,_⟩|⟨d,_⟩|⟨d,_⟩|⟨d,a⟩|⟨d,a⟩|⟨d,a⟩|⟨d,h⟩
 ·omega
 ·omega
 ·omega
 ·omega
 ·exact one 42 (by decide) a
 ·exact one 43 (by decide) a
 ·exact one 63 (by decide) a
 have b:∀x:UInt8,48<=(x.toNat:Int)->(x.toNat:Int)<=57->x≠125:=by
  intro x q s e;subst e;revert q s;decide
 rcases h with ⟨x,a,l,m,_⟩|⟨x,z,a,l,m,y,A,_⟩
 ·rw[a]at hd ⊢;have f:p.drop (i+1)=x::125::r:=by rw[<-q0n,hd];rfl
  have g:p.drop (i+2)=125::r:=by rw[<-q0n,hd];rfl
  have j:=q4H hd;simp at j;obtain⟨v,k⟩:∃v,p.length+1=v+1+1+1:=⟨p.length-2,by omega⟩;rw[Rf.suffixed,hd];simp only[List.cons_append,if_true];rw[k,q1L hd (by decide),q1L f (b x l m),q5z g];rfl
 rw[a]at hd ⊢;have f:p.drop (i+1)=x::44::z::125::r:=by rw[<-q0n,hd];rfl
 have g:p.drop (i+2)=44::z::125::r:=by rw[<-q0n,hd];rfl
 have n:p.drop (i+3)=z::125::r:=by rw[<-q0n,hd];rfl
 have o:p.drop (i+4)=125::r:=by rw[<-q0n,hd];rfl
 have j:=q4H hd;simp at j;obtain⟨v,k⟩:∃v,p.length+1=v+1+1+1+1+1:=⟨p.length-4,by omega⟩;rw[Rf.suffixed,hd];simp only[List.cons_append,if_true];rw[k,q1L hd (by decide),q1L f (b x l m),q1L g (by decide),q1L n (b z y A),q5z o];rfl
def Sufs (ts:List Tk):Prop:=∀t∈ts,TkOK t/\isSuf t
theorem q5L {ts:List Tk} (h:∀t∈ts,TkOK t):ts.length<=(txt ts).length:=by
 induction ts with
 |nil=>simp
 |cons t r ih=>
  obtain⟨c,w,b,_⟩:=q1k (h t (by simp));have:=ih (λd a=>h d (by simp[a]));rw[q0P,List.length_append,b];simp;omega
theorem q5m:∀(ts:List Tk),Sufs ts->∀(p:List UInt8) (i f:Nat) (r:List UInt8),p.drop i=txt ts++r->(∀c r',r=c::r'->sufB c=false)->ts.length<f->Rf.pieceFrom p f i=some (i+(txt ts).length):=by
 intro ts
 induction ts with
 |nil=>
  intro _ p i f r a h l;obtain⟨f,rfl⟩:∃q,f=q+1:=⟨f-1,by omega⟩;simp only[txt,List.flatMap_nil,List.nil_append,List.length_nil,Nat.add_zero]at a ⊢;rw[Rf.pieceFrom,a];rcases r with _|⟨c,r'⟩
  ·rfl
  have:=h c r' rfl;unfold sufB at this;simp only[this];rfl
 |cons t ts ih=>
  intro hs p i f r a h l;obtain⟨f,rfl⟩:∃q,f=q+1:=⟨f-1,by omega⟩;obtain⟨j,k⟩:=hs t (by simp);rw[q0P,List.append_assoc]at a;obtain⟨c,w,o,m,_⟩:=q1k j;have d:=m.2 k;unfold sufB at d;have b:=q5Q j k p i _ a;have g:p.drop (i+t.w.length)=txt ts++r:=by rw[<-q0n,a,List.drop_left]
  have e:=a;rw[o,List.cons_append]at e;rw[Rf.pieceFrom,e];simp only[d,if_true];rw[b];simp only;rw[ih (λs n=>hs s (by simp[n])) p _ f r g h (by simp at l;omega),q0P,List.length_append,Nat.add_assoc]
theorem q5g:∀(ts:List Tk),Sufs ts->∀(t:Tk),TkOK t->isSuf t->∀(p:List UInt8) (i cut f:Nat),p.drop i=txt ts++t.w->ts.length+1<f->Rf.splitFrom p f i cut=some (i+(txt ts).length):=by
 intro ts
 induction ts with
 |nil=>
  intro _ t g h p i cut f d j;obtain⟨f,rfl⟩:∃q,f=q+1+1:=⟨f-2,by simp at j;omega⟩;have b:p.drop i=t.w++[]:=by rw[d];simp[txt]
  have a:=q5Q g h p i [] b;have e:p.drop (i+t.w.length)=[]:=by rw[<-q0n,b,List.drop_left]
  obtain⟨c,w,k,_⟩:=q1k g;rw[k,List.cons_append]at b;rw[Rf.splitFrom,b];simp only[a];rw[Rf.splitFrom,e];rfl
 |cons t0 ts ih=>
  intro hs t g h p i cut f d j;obtain⟨f,rfl⟩:∃q,f=q+1:=⟨f-1,by omega⟩;obtain⟨l,m⟩:=hs t0 (by simp);rw[q0P,List.append_assoc]at d;have a:=q5Q l m p i _ d;have e:p.drop (i+t0.w.length)=txt ts++t.w:=by rw[<-q0n,d,List.drop_left]
  obtain⟨c,w,k,_⟩:=q1k l;rw[k,List.cons_append]at d;rw[Rf.splitFrom,d];simp only[a];rw[ih (λo n=>hs o (by simp[n])) t g h p _ i f e (by simp at j;omega),q0P,List.length_append,Nat.add_assoc]
theorem q1N:∀(f:Nat) (p:List Tk) (V:Int),Is f false p V->∃(base:List UInt8) (sufs:List Tk),txt p=base++txt sufs/\Sufs sufs/\(∃c w,base=c::w/\c≠124)/\∀r,Rf.atom (base++r)=some base.length:=by
 intro f
 induction f with
 |zero=>intro p V h;exact absurd h (by simp[Is])
 |succ f ih=>
  intro p V h;unfold Is at h;rcases h with ⟨t,rfl,i,m,rfl⟩|⟨a,inn,b,rfl,i,m,n,J,F⟩|⟨q,t,A,rfl,i,m,n,_⟩
  ·obtain⟨c,w,g,_,G,E,_⟩:=q1k i;refine⟨t.w,[],by simp[txt],(by intro x d;simp at d),⟨c,w,g,λe=>by have:=G.1 e;omega⟩,λr=>?_⟩;have H:IsPlaceW t.w:=by
    rcases i with h|h|h|h|h|h|h|h
    all_goals first|(exact absurd h.1 (by omega))|exact h.2
   rcases H with ⟨c,g,hs⟩|⟨e,v0,g,k⟩|⟨e,g,l⟩
   ·unfold Special at hs;rw[g,List.cons_append,Rf.atom]
    (try simp only)
    rw[if_neg (λe=>hs (by simp[e])),if_neg (λe=>hs (by simp[e])),if_neg (λe=>hs (by simp[e]))];rfl
   ·rw[g,List.cons_append,Rf.atom];simp only[if_true];rw[k r];rfl
   obtain⟨fa,inn,hs⟩:=l r 0;rw[g,List.cons_append,Rf.atom];simp only;rw[if_neg (by decide),if_pos trivial,hs];simp
  ·have o:a.w=[40]:=by
    rcases i with h|h|h|h|h|h|h|h
    all_goals first|(exact absurd h.1 (by omega))|exact h.2
   have s:b.w=[41]:=by
    rcases n with h|h|h|h|h|h|h|h
    all_goals first|(exact absurd h.1 (by omega))|exact h.2
   have d:txt (a::(inn++[b]))=40::(txt inn++[41]):=by
    rw[q0P,q0K,o];simp[txt,s]
   refine⟨40::(txt inn++[41]),[],by rw[d];simp[txt],(by intro x d;simp at d),⟨40,_,rfl,by decide⟩,λr=>?_⟩;obtain⟨C,c1,c2⟩:=grp f true inn V F;rw[List.cons_append,Rf.atom];simp only;rw[if_neg (by decide),if_neg (by decide),if_pos trivial,Rf.groupFrom,List.drop_zero];simp only;rw[if_neg (by decide),if_neg (by decide),if_pos trivial];have y:(txt inn++[41]++r).length=(txt inn).length+1+r.length:=by simp;omega
   obtain⟨v,I⟩:∃v,(txt inn++[41]++r).length+1=(v+1)+C:=⟨(txt inn).length+1+r.length-C,by omega⟩;have j:(40::(txt inn++[41]++r)).drop (0+1)=txt inn++(41::r):=by simp
   have u:(40::(txt inn++[41]++r)).drop (0+1+(txt inn).length)=41::r:=by rw[<-q0n,j,List.drop_left]
   rw[I,c2 _ _ (v+1) (0+1) (41::r) (by omega) j,Rf.groupFrom,u];simp only;rw[if_neg (by decide),if_neg (by decide),if_neg (by decide),if_pos trivial,if_pos (by decide)];simp;omega
  obtain⟨base,sufs,z,e2,B,D⟩:=ih q A i;refine⟨base,sufs++[t],by rw[q0K,q0K,z,List.append_assoc],?_,B,D⟩;intro x d;rcases List.mem_append.1 d with d|d
  ·exact e2 x d
  rw[List.mem_singleton]at d;subst d;exact⟨m,n⟩
theorem y1I {r:List Tk} (h:∀t∈r,TkOK t) (hn:∀t r',r=t::r'->¬isSuf t):∀c r',txt r=c::r'->sufB c=false:=by
 intro c r' a;rcases r with _|⟨t,r⟩
 ·simp[txt]at a
 obtain⟨d,w,e,b,_⟩:=q1k (h t (by simp));rw[q0P,e,List.cons_append]at a;injection a with he1 he2;subst he1;cases hb:sufB d
 ·rfl
 exact absurd (b.1 hb) (hn t r rfl)
theorem q5r {w:List UInt8} (h:IsCountW w mo):Rf.most w=some mo:=by
 have a:∀x:UInt8,48<=(x.toNat:Int)->(x.toNat:Int)<=57->Rf.digit x.toNat=true:=by
  intro x f g;simp[Rf.digit];omega
 rcases h with ⟨x,rfl,b,c,rfl⟩|⟨x,z,rfl,b,c,d,e,rfl⟩
 ·simp[Rf.most,a x b c]
 simp[Rf.most,a x b c,a z d e]
theorem counts:∀(f:Nat) (g:Bool) (ts:List Tk) (V:Int),Is f g ts V->∃G,∀v,Rf.cnt (v+G) g (txt ts)=some V:=by
 intro f
 induction f with
 |zero=>intro g ts V h;exact absurd h (by simp[Is])
 |succ f ih=>
  intro g ts V h;have H:=y3I _ _ _ _ h;cases g
  ·have h0:=h;unfold Is at h;rcases h with ⟨t,rfl,i,n,rfl⟩|⟨a,inn,b,rfl,i,n,z,h5,h6⟩|⟨q,t,A,rfl,i,n,z,rfl⟩
   ·refine⟨1,λv=>?_⟩;obtain⟨base,d,j,e2,e3,L⟩:=q1N 1 [t] 1 (Or.inl ⟨t,rfl,i,n,rfl⟩);obtain⟨c,w,m,W,R,D,_⟩:=q1k i;have u:txt [t]=t.w:=by simp[txt]
    have hp:IsPlaceW t.w:=by
     rcases i with h|h|h|h|h|h|h|h
     all_goals first|(exact absurd h.1 (by omega))|exact h.2
    have s:Rf.atom t.w=some t.w.length:=by
     rcases hp with ⟨c,m,hs⟩|⟨e,v0,m,J⟩|⟨e,m,K⟩
     ·unfold Special at hs;rw[m,Rf.atom]
      (try simp only)
      rw[if_neg (λe=>hs (by simp[e])),if_neg (λe=>hs (by simp[e])),if_neg (λe=>hs (by simp[e]))];rfl
     ·have:=J [];rw[List.append_nil]at this;rw[m,Rf.atom];simp only[if_true];rw[this];rfl
     obtain⟨fa,inn,hs⟩:=K [] 0;rw[List.append_nil]at hs;rw[m,Rf.atom];simp only;rw[if_neg (by decide),if_pos trivial,hs];simp
    have l:Rf.split t.w=some t.w.length:=by
     rw[Rf.split,s];simp only;rw[Rf.splitFrom,List.drop_length]
    rw[u,Rf.cnt.eq_def];simp only[l,List.drop_length];rw[m];simp only;rw[if_neg (λe=>by have:=D.1 e;omega)]
   ·obtain⟨G,F⟩:=ih true inn V h6;have P:a.w=[40]:=by
     rcases i with h|h|h|h|h|h|h|h
     all_goals first|(exact absurd h.1 (by omega))|exact h.2
    have Q:b.w=[41]:=by
     rcases z with h|h|h|h|h|h|h|h
     all_goals first|(exact absurd h.1 (by omega))|exact h.2
    have u:txt (a::(inn++[b]))=40::(txt inn++[41]):=by
     rw[q0P,q0K,P];simp[txt,Q]
    refine⟨G+1,λv=>?_⟩;obtain⟨C,c1,c2⟩:=grp f true inn V h6;have s:Rf.atom (40::(txt inn++[41]))=some (40::(txt inn++[41])).length:=by
     rw[Rf.atom];simp only;rw[if_neg (by decide),if_neg (by decide),if_pos trivial,Rf.groupFrom,List.drop_zero];simp only;rw[if_neg (by decide),if_neg (by decide),if_pos trivial];have aa:(txt inn++[41]).length=(txt inn).length+1:=by simp
     obtain⟨v,hv⟩:∃v,(txt inn++[41]).length+1=(v+1)+C:=⟨(txt inn).length+1-C,by omega⟩;have I:(40::(txt inn++[41])).drop (0+1)=txt inn++[41]:=by simp
     have S:(40::(txt inn++[41])).drop (0+1+(txt inn).length)=[41]:=by rw[<-q0n,I,List.drop_left]
     rw[hv,c2 _ _ (v+1) (0+1) [41] (by omega) I,Rf.groupFrom,S];simp only;rw[if_neg (by decide),if_neg (by decide),if_neg (by decide),if_pos trivial,if_pos (by decide)];simp;omega
    have l:Rf.split (40::(txt inn++[41]))=some (40::(txt inn++[41])).length:=by
     rw[Rf.split,s];simp only;rw[Rf.splitFrom,List.drop_length]
    rw[u,show v+(G+1)=(v+G)+1 by omega,Rf.cnt.eq_def];have hx:(txt inn++[41]).length-1=(txt inn).length:=by simp
    have hy:¬(txt inn++[41]).length=0:=by simp
    simp only[l,List.drop_length,if_true,if_neg hy,hx,List.take_left];exact F v
   obtain⟨G,F⟩:=ih false q A i;obtain⟨base,d,j,e2,e3,L⟩:=q1N f q A i;obtain⟨c,w,m,W,R,D,o⟩:=q1k n;have u:txt (q++[t])=txt q++t.w:=by rw[q0K];simp[txt]
   have hl:=q5L (λZ x=>(e2 Z x).1);have l:Rf.split (txt q++t.w)=some (txt q).length:=by
    have ha:Rf.atom (txt q++t.w)=some base.length:=by rw[j,List.append_assoc];exact L _
    rw[Rf.split,ha];simp only;rw[q5g d e2 t n z _ base.length base.length _ (by rw[j,List.append_assoc,List.drop_left]) (by rw[List.length_append,m,j,List.length_append,List.length_cons];omega),j,List.length_append]
   refine⟨G+1,λv=>?_⟩;rw[u,show v+(G+1)=(v+G)+1 by omega,Rf.cnt.eq_def];simp only[l,List.drop_left,List.take_left];rw[m];simp only;rw[F];simp only;by_cases E:t.kd=8
   ·rw[if_pos (o.2 E),if_pos E,<-m,q5r (q8b n E).2];rfl
   rw[if_neg (λe=>E (o.1 e)),if_neg E]
  unfold Is at h;rcases h with ⟨rfl,rfl⟩|⟨t,r,rfl,i,n,z⟩|⟨p,r,A,B,rfl,i,n,rfl,h5⟩
  ·exact⟨1,λv=>rfl⟩
  ·obtain⟨G,F⟩:=ih true r V z;have Y:t.w=[124]:=by
    rcases i with h|h|h|h|h|h|h|h
    all_goals first|(exact absurd h.1 (by omega))|exact h.2
   refine⟨G+1,λv=>?_⟩;rw[q0P,Y,show v+(G+1)=(v+G)+1 by omega,List.singleton_append,Rf.cnt];simp only[if_true];exact F v
  obtain⟨y,N⟩:=ih false p A i;obtain⟨Gr,O⟩:=ih true r B n;obtain⟨base,d,j,e2,⟨c,w,hb,R⟩,L⟩:=q1N f p A i;have hl:=q5L (λZ x=>(e2 Z x).1);have U:Rf.piece (txt p++txt r)=some (txt p).length:=by
   have ha:Rf.atom (txt p++txt r)=some base.length:=by rw[j,List.append_assoc];exact L _
   rw[Rf.piece,ha];simp only;rw[q5m d e2 _ base.length _ (txt r) (by rw[j,List.append_assoc,List.drop_left]) (y1I (λt u=>H t (by simp[u])) h5) (by rw[List.length_append,j,List.length_append];omega),j,List.length_append]
  refine⟨y+Gr+1,λv=>?_⟩;obtain⟨M,k⟩:∃M,txt p++txt r=c::M:=⟨_,by rw[j,hb];rfl⟩;have X:(c::M).take (txt p).length=txt p:=by rw[<-k,List.take_left]
  have T:(c::M).drop (txt p).length=txt r:=by rw[<-k,List.drop_left]
  rw[q0K,k,show v+(y+Gr+1)=(v+y+Gr)+1 by omega,Rf.cnt]
  (try simp only)
  rw[if_neg R,<-k,U];simp only;rw[k,X,T,O (v+y),show v+y+Gr=(v+Gr)+y by omega,N]
end Go.Proofs.YtoaaklhpmhjhkaaGreat
