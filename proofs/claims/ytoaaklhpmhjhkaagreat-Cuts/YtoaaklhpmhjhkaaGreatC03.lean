import Derived.Test.YtoaaklhpmhjhkaaGreatC02
set_option maxRecDepth 100000
set_option maxHeartbeats 4000000
set_option linter.all false
namespace Go.Proofs.YtoaaklhpmhjhkaaGreat
section
open Go.RowKit
def P4(w:List UInt8)(f:Nat->Bool):Prop:=
 (w=[46]/\∀b,b<256->f b=(b != 10)) \/
 (∃c v r0,w=c::r0/\c≠46/\c≠91/\c≠40/\(∀r,Rf.one (w++r)=some (v,w.length))/\∀b,b<256->f b=decide ((b:Int)=v)) \/
 (∃e,w=91::e/\∀r i,∃fa,Rf.set (e++r) i=some (i+(e.length+1),fa,f))
def xS(w:List UInt8)(le:Int):Prop:=∃(x:UInt8) (r:List UInt8),w=123::x::r/\48<=(x.toNat:Int)/\(x.toNat:Int)<=57/\le=(x.toNat:Int)-48
def PT{v:Int}(b:Nat):Pg.gY (λ_=>false) v v b=decide ((b:Int)=v):=by
 unfold Pg.gY;by_cases h:(b:Int)=v
 .simp[h]
 have:¬(v<=(b:Int)/\(b:Int)<=v):=Qo
 simp only[dx,h,decide_false];rcases Int.lt_or_le (b:Int) v with h1|h1
 .simp[show ¬v<=(b:Int) by omega]
 simp[show ¬(b:Int)<=v by omega]
def Eo(s:ByteArray)(k n:Nat)(c:UInt8)(r:List UInt8)(J:s.data.toList.drop k=c::r)(h1:Pg.hY (Y7 s k)=1)(H:(Pg.gV (Y7 s) s.size k 1).ok=true)(Y:(Pg.gV (Y7 s) s.size k 1).n=((k+n:Nat):Int))(_hn2:k+n<=s.size):
  P4 ((s.data.toList.drop k).take n) (Pg.gV (Y7 s) s.size k 1).f:=by
 have d:Y7 s (k:Int)=c.toNat:=by rw[Sv J];rfl
 by_cases i:c=91
 .subst i;have a:Y7 s (k:Int)=91:=d;have l:Pg.gV (Y7 s) s.size k 1=⟨(Pg.gM (Y7 s) s.size k).n,(Pg.gM (Y7 s) s.size k).ok,(Pg.gM (Y7 s) s.size k).f,0,(Pg.gM (Y7 s) s.size k).fa⟩:=by
   rw[Pg.gV,dF rfl,Pg.iC,dF a]
  rw[l]at H Y ⊢;rcases PI s k r 0 0 0 (Or.inl rfl) J with ⟨m,F,B,g1,g2,q,z,_⟩|⟨g1,_⟩
  .rw[q]at Y ⊢;simp only at Y ⊢;have o:m=k+n:=Qo
   refine Or.inr (Or.inr ⟨r.take (n-1),?_,λp t=>?_⟩)
   .rw[J,show n=(n-1)+1 by omega,ZK];rfl
   let⟨fa,h⟩:=Lv z p t;refine⟨fa,?_⟩;have A:r.length+1=s.size-k:=by
    have:(s.data.toList.drop k).length=s.size-k:=Qs
    rw[J]at this;simpa using this
   rw[show m-k-1=n-1 by omega]at h;rw[h,eE,show t+(m-k)=t+(min (n-1) r.length+1) by omega]
  rw[g1]at H;cases H
 by_cases j:c=92
 .subst j;have a:Y7 s (k:Int)=92:=d;have l:Pg.gV (Y7 s) s.size k 1=⟨(Pg.iz (Y7 s) k).n,(Pg.iz (Y7 s) k).ok,Pg.gY (λ_=>false) (Pg.iz (Y7 s) k).v (Pg.iz (Y7 s) k).v,0,-1⟩:=by
   rw[Pg.gV,dF rfl,Pg.iC,dG (by rw[a];decide),dG (by rw[a];decide),dF a]
  rw[l]at H Y ⊢;rcases RY s k r J with ⟨m,v,g1,q,z,_⟩|⟨m,g1,_⟩
  .rw[g1]at Y ⊢;simp only at Y ⊢;have o:n=m+1:=Qo
   subst o;refine Or.inr (Or.inl ⟨92,v,r.take m,by rw[J,ZK],Qd,Qd,Qd,λp=>?_,λb _=>PT b⟩);rw[J];have:=TV q p;rw[this];congr 2;simp;omega
  rw[g1]at H;cases H
 by_cases g:c=46
 .subst g;have a:Y7 s (k:Int)=46:=d;have l:Pg.gV (Y7 s) s.size k 1=⟨(k:Int)+1,true,λk=>!(Pg.gY (λ_=>false) 10 10 k),0,-1⟩:=by
   rw[Pg.gV,dF rfl,Pg.iC,dG (by rw[a];decide),dF a]
  rw[l]at Y ⊢;simp only at Y ⊢;have o:n=1:=Qo
  subst o;refine Or.inl ⟨by rw[J];rfl,λb _=>?_⟩;show(!Pg.gY (λ_=>false) 10 10 b)=(b != 10);rw[PT];by_cases h:b=10
  .subst h;rfl
  have:¬(b:Int)=10:=Qo
  simp[h,this]
 have x:=Yr i;have y:=Yr j;have w:=Yr g;have l:Pg.gV (Y7 s) s.size k 1=⟨(k:Int)+1,true,Pg.gY (λ_=>false) (Y7 s k) (Y7 s k),0,-1⟩:=by
  rw[Pg.gV,dF rfl,Pg.iC,dG (by rw[d];exact x),dG (by rw[d];exact w),dG (by rw[d];exact y)]
 rw[l]at Y ⊢;simp only at Y ⊢;have o:n=1:=Qo
 subst o;have u:c≠40:=λe=>by
  subst e;rw[d]at h1;exact absurd h1 Qd
 refine Or.inr (Or.inl ⟨c,c.toNat,[],by rw[J];rfl,g,i,u,λp=>?_,λb _=>?_⟩)
 .rw[J];simp[Rf.one,j]
 rw[d];exact PT b
def Bk(s:ByteArray)(k n:Nat)(_c:UInt8)(_r:List UInt8)(H:Ty ((s.data.toList.drop k).take n) (Pg.gV (Y7 s) s.size k 8).mo):xS ((s.data.toList.drop k).take n) (Pg.iI (Y7 s ((k:Int)+1))):=by
 have b:∀(x:UInt8) (c:List UInt8),(s.data.toList.drop k).take n=123::x::c->48<=(x.toNat:Int)->(x.toNat:Int)<=57->xS ((s.data.toList.drop k).take n) (Pg.iI (Y7 s ((k:Int)+1))):=λx c a h1 h2=>by
  refine⟨x,c,a,h1,h2,?_⟩;have d:(s.data.toList.drop k)[1]?=some x:=by
   have h3:((s.data.toList.drop k).take n)[1]?=some x:=by rw[a];rfl
   rw[List.getElem?_take]at h3;split at h3
   .exact h3
   cases h3
  rw[Ia rfl,at_,d];simp only;rw[Pg.iI,dF ⟨h1,h2⟩]
 rcases H with ⟨x,a,h1,h2,_⟩|⟨x,z,a,h1,h2,_⟩
 .exact b x _ a h1 h2
 exact b x _ a h1 h2
structure Tq where
 t:Tk
 f:Nat->Bool
 le:Int
def UC(q:Tq):Prop:=UG q.t/\(q.t.kd=1->P4 q.t.w q.f)/\(q.t.kd=8->xS q.t.w q.le)
def Mo(s:ByteArray)(p:Pg.Pt)(q:Tq):Prop:=p.kd=q.t.kd/\p.mo=q.t.mo/\p.f=q.f/\(p.kd=8->Pg.iI (Y7 s (p.pl+1))=q.le)
inductive XK {α β:Type} (R:α->β->Prop):List α->List β->Prop
 |nil:XK R [] []
 |cons {a:α}{b:β}{l:List α}{m:List β} (h:R a b) (t:XK R l m):XK R (a::l) (b::m)
def Cy(s:ByteArray):∀(u k:Nat) (J op:Int) (H:List Pg.Pt),s.size<u+k->k<=s.size->(Pg.ij (Y7 s) s.size u J op k H).ok=true ->
  ∃ps qs,(Pg.ij (Y7 s) s.size u J op k H).ps=H++ps/\XW (qs.map Tq.t)=s.data.toList.drop k/\AX (qs.map Tq.t) J op/\(∀q∈qs,UC q)/\XK (Mo s) ps qs:=by
 intro u
 induction u with
 |zero=>intro k J op H h1 h2;omega
 |succ u ih=>
  intro k J op H B A a;rcases hd:s.data.toList.drop k with _|⟨c,r⟩
  .have x:k=s.size:=by
    have:s.size<=k:=by simpa using hd
    omega
   have i:¬(k:Int)<(s.size:Int):=Qo
   rw[Pg.ij,dG i]at a ⊢;exact⟨[],[],Qs,rfl,by simpa[AX]using a,Qs,XK.nil⟩
  have y:=Xu hd;have b:(k:Int)<(s.size:Int):=Qo
  rw[Pg.ij,dF b]at a ⊢;cases hc:Pg.gX (Pg.hY (Y7 s k)) J op
  .rw[hc]at a;cases a
  rw[hc]at a;simp only[dB]at a ⊢;cases hp:(Pg.gV (Y7 s) s.size k (Pg.hY (Y7 s k))).ok
  .rw[hp]at a;cases a
  rw[hp]at a;simp only[dB]at a ⊢;have h0:Pg.hY (Y7 s k)≠0:=by
   intro e;rw[e]at hc;simp[Pg.gX]at hc
  let⟨n,C,m,o,l⟩:=zq s k c r hd h0 hp;have d:=o;rw[o]at a ⊢;let⟨ps,qs,g1,g2,p,v,w⟩:=ih (k+n) _ _ _ Qo m a;refine⟨_::ps,⟨⟨(s.data.toList.drop k).take n,Pg.hY (Y7 s k),(Pg.gV (Y7 s) s.size k (Pg.hY (Y7 s k))).mo⟩,(Pg.gV (Y7 s) s.size k (Pg.hY (Y7 s k))).f,Pg.iI (Y7 s ((k:Int)+1))⟩::qs,by rw[g1,Zs];rfl,?_,⟨l,hc,p⟩,?_,XK.cons ⟨rfl,rfl,rfl,λ_=>rfl⟩ w⟩
  .rw[dt,XN,g2,<-hd,<-YU,eD]
  intro q z;rcases ZR.1 z with rfl|h
  .refine⟨l,λh1=>?_,λg=>?_⟩
   .simp only at h1 ⊢;rw[h1]at hp d ⊢;exact Eo s k n c r hd h1 hp d m
   simp only at g ⊢;have j:=(M3 l g).2;simp only at j;rw[g]at j;exact Bk s k n c r j
  exact v q h
def Pp:Nat->Nat->List Tq->Rx->Prop
 |0,_,_,_=>False
 |f+1,0,ts,e=>(∃q,ts=[q]/\UC q/\q.t.kd=1/\e=.lit q.f) \/
   (∃a inn b e0,ts=a::(inn++[b])/\UC a/\a.t.kd=2/\UC b/\b.t.kd=3/\Pp f 2 inn e0/\e=e0.nz) \/
   (∃q t e0,ts=q++[t]/\Pp f 0 q e0/\UC t/\X3 t.t/\e=(Rx.suf t.t.kd t.le.toNat t.t.mo.toNat e0).nz)
 |f+1,1,ts,e=>∃L:List (List Tq × Rx),ts=(L.map (·.1)).flatten/\(∀x∈L,Pp f 0 x.1 x.2)/\e=Rx.rowOf (L.map (·.2))
 |f+1,_,ts,e=>Pp f 1 ts e\/∃r b q e1 e2,ts=r++b::q/\UC b/\b.t.kd=4/\Pp f 1 r e1/\Pp f 2 q e2/\e=.alt e1 e2
def P9:∀(f k:Nat) (ts:List Tq) (e:Rx),Pp f k ts e->Pp (f+1) k ts e:=by
 intro f
 induction f with
 |zero=>intro k ts e h;exact absurd h (by simp[Pp])
 |succ f ih=>
  intro k ts e h;rcases k with _|_|k
  .unfold Pp at h ⊢;rcases h with h|⟨a,inn,b,e0,h1,h2,h3,c,d,g,j⟩|⟨q,t,e0,h1,h2,h3⟩
   .exact Or.inl h
   .exact Or.inr (Or.inl ⟨a,inn,b,e0,h1,h2,h3,c,d,ih _ _ _ g,j⟩)
   exact Or.inr (Or.inr ⟨q,t,e0,h1,ih _ _ _ h2,h3⟩)
  .unfold Pp at h ⊢;let⟨L,h1,h2,h3⟩:=h;exact⟨L,h1,λx l=>ih _ _ _ (h2 x l),h3⟩
  unfold Pp at h ⊢;rcases h with h|⟨r,b,q,i,e2,h1,h2,h3,c,d,g⟩
  .exact Or.inl (ih _ _ _ h)
  exact Or.inr ⟨r,b,q,i,e2,h1,h2,h3,ih _ _ _ c,ih _ _ _ d,g⟩
variable {s:ByteArray}{d kd:Int}{ck:List Int}{x:List Nat}{ts:List Tq}{K b c g i j k n:Nat}{E:Nat->N_}{toN:Nat->Nat->Nat}{e:Rx}
def JF{f:Nat}(h:Pp f k ts e)(z:f<=g):Pp g k ts e:=by
 induction g with
 |zero=>
   have:f=0:=Qo
   subst this;exact h
 |succ g ih=>
  by_cases e:f=g+1
  .subst e;exact h
  exact P9 _ _ _ _ (ih Qo)
variable {e2:Rx}
def AT{f:Nat}{p r:List Tq}{z:Rx}(h1:Pp f 0 p z)(h2:Pp f 2 r e2):∃e,Pp (f+2) 2 (p++r) e:=by
 have row:∀(f:Nat) (r:List Tq) (e2:Rx),Pp f 0 p z->Pp f 1 r e2->∃e,Pp (f+1) 1 (p++r) e:=λf r e2 h1 h2=>by
  rcases f with _|f
  .exact absurd h1 (by simp[Pp])
  let⟨L,g1,g2,_⟩:=h2;refine⟨_,(p,z)::L,by rw[g1];simp,λx c=>?_,rfl⟩;rcases ZR.1 c with rfl|c
  .exact h1
  exact P9 _ _ _ _ (g2 x c)
 rcases f with _|f
 .exact absurd h1 (by simp[Pp])
 rcases h2 with h|⟨d,b,q,g,i,k1,j,k,l,m,_⟩
 .let⟨e,a⟩:=row (f+1) r e2 h1 (P9 _ _ _ _ h);exact⟨e,Or.inl a⟩
 let⟨e,a⟩:=row (f+1) d g h1 (P9 _ _ _ _ l);exact⟨_,Or.inr ⟨p++d,b,q,e,i,by rw[k1];simp,j,k,a,JF m Qo,rfl⟩⟩
def TQ{a b:List Tk}(h:ts.map Tq.t=a++b):∃x y,ts=x++y/\x.map Tq.t=a/\y.map Tq.t=b:=by
 refine⟨ts.take a.length,ts.drop a.length,(eD _ _).symm,?_,?_⟩
 .rw[List.map_take,h,List.take_left'];rfl
 rw[List.map_drop,h,List.drop_left'];rfl
def AU:∀(f:Nat) (g:Bool) (ts:List Tq) (V:Int),(∀q∈ts,UC q)->Is f g (ts.map Tq.t) V->∃F e,Pp F (if g then 2 else 0) ts e:=by
 intro f
 induction f with
 |zero=>intro g ts V _ h;exact absurd h (by simp[Is])
 |succ f ih=>
  intro g ts V i h;cases g
  .unfold Is at h;rcases h with ⟨t,h1,h2,h3,_⟩|⟨a,inn,b,h1,h2,h3,m,D,E⟩|⟨q,t,A,h1,h2,h3,m,_⟩
   .rcases ts with _|⟨q,_|⟨M,ts⟩⟩
    .simp at h1
    .simp at h1;exact⟨1,.lit q.f,Or.inl ⟨q,rfl,i q Qs,by rw[h1];exact h3,rfl⟩⟩
    simp at h1
   .obtain⟨x,y,c,e2,d⟩:=TQ (a:=[a]) (b:=inn++[b]) (by rw[h1];rfl);obtain⟨w,H,n,C,l⟩:=TQ d;rcases x with _|⟨x,_|⟨x2,xs⟩⟩
    .simp at e2
    rotate_left
    .simp at e2
    rcases H with _|⟨z,_|⟨I,J⟩⟩
    .simp at l
    rotate_left
    .simp at l
    simp at e2 l;obtain⟨F,e,k⟩:=ih true w V (λq j=>i q (by rw[c,n];simp[j])) (by rw[C];exact E);exact⟨F+1,e.nz,Or.inr (Or.inl ⟨x,w,z,e,by rw[c,n];rfl,i x (by rw[c];simp),by rw[e2];exact h3,i z (by rw[c,n];simp),by rw[l];exact D,k,rfl⟩)⟩
   obtain⟨x,y,c,e2,d⟩:=TQ h1;rcases y with _|⟨z,_|⟨I,J⟩⟩
   .simp at d
   rotate_left
   .simp at d
   simp at d;obtain⟨F,e,k⟩:=ih false x A (λq j=>i q (by rw[c];simp[j])) (by rw[e2];exact h2);exact⟨F+1,_,Or.inr (Or.inr ⟨x,z,e,c,k,i z (by rw[c];simp),by rw[d];exact m,rfl⟩)⟩
  unfold Is at h;rcases h with ⟨h1,_⟩|⟨t,r,h1,h2,h3,m⟩|⟨p,r,A,B,h1,h2,h3,_,_⟩
  .have:ts=[]:=by simpa using h1
   subst this;exact⟨2,Rx.rowOf [],Or.inl ⟨[],rfl,Qs,rfl⟩⟩
  .obtain⟨x,y,c,e2,d⟩:=TQ (a:=[t]) (b:=r) (by rw[h1];rfl);rcases x with _|⟨x,_|⟨x2,xs⟩⟩
   .simp at e2
   rotate_left
   .simp at e2
   simp at e2;obtain⟨F,e,k⟩:=ih true y V (λq j=>i q (by rw[c];simp[j])) (by rw[d];exact m);exact⟨F+2,_,Or.inr ⟨[],x,y,Rx.rowOf [],e,by rw[c];rfl,i x (by rw[c];simp),by rw[e2];exact h3,⟨[],rfl,Qs,rfl⟩,P9 _ _ _ _ k,rfl⟩⟩
  obtain⟨x,y,c,e2,d⟩:=TQ h1;obtain⟨u,K,o⟩:=ih false x A (λq j=>i q (by rw[c];simp[j])) (by rw[e2];exact h2);obtain⟨v,L,s⟩:=ih true y B (λq j=>i q (by rw[c];simp[j])) (by rw[d];exact h3);obtain⟨e,G⟩:=AT (JF o (Nat.le_max_left u v)) (JF s (Nat.le_max_right u v));exact⟨_,e,by rw[c];exact G⟩
def EE(s:ByteArray)(h:(Pg.ie (Y7 s) s.size).ok=true):∃qs f e,XW (qs.map Tq.t)=s.data.toList/\(∀q∈qs,UC q)/\XK (Mo s) (Pg.ie (Y7 s) s.size).ps qs/\Pp f 2 qs e:=by
 unfold Pg.ie at h ⊢;let⟨ps,qs,h1,h2,h3,g,j⟩:=Cy s ((s.size:Int).toNat+1) 0 0 0 [] Qo Qo h;have d:∀t r,qs.map Tq.t=t::r->¬X3 t:=by
  intro t r e hs;rw[e]at h3;have:=h3.2.1;unfold X3 at hs;simp[Pg.gX,Pg.hJ,Pg.gI]at this;rcases hs with h|h|h|h<;>simp[h]at this
 let⟨f,inn,rest,V,g1,g2,i⟩:=zn (qs.map Tq.t).length (qs.map Tq.t) 0 0 (Zg _) (eT _) h3 d;have a:rest=[]:=by
  rcases i with ⟨h,_⟩|⟨b,r,_,_,_,h,_⟩
  .exact h
  omega
 rw[a,dv]at g1;let⟨F,e,k⟩:=AU f true qs V g (by rw[g1];exact g2);have c:(Pg.ij (Y7 s) (s.size:Int) ((s.size:Int).toNat+1) 0 0 0 []).ps=ps:=by
  have:=h1;rw[dz]at this;exact this
 refine⟨qs,F,e,by rw[h2];rfl,g,?_,k⟩;rw[c];exact j
def yZ{t:Tk}(h3:UG t)(z:X3 t)(le:Nat)(e0:Rx):((Rx.suf t.kd le t.mo.toNat e0).sz:Int)=if t.kd=8 then (e0.sz:Int)*t.mo else e0.sz:=by
 unfold Rx.suf;unfold X3 at z;by_cases a:t.kd=8
 .rw[g_,g_,g_,dF a,Rx.copies_sz];have:=(M3 h3 a).1;rw[Int.natCast_mul,Int.mul_comm,Int.toNat_of_nonneg this]
 rw[dG a];by_cases b:t.kd=5
 .rw[dF b];rfl
 rw[dG b];by_cases c:t.kd=6
 .rw[dF c];rfl
 rw[dG c,p_];rfl
def Sq:∀(f k:Nat) (ts:List Tq) (e:Rx),Pp f k ts e->(∀q∈ts,UC q)/\∃F,(k=0->Is F false (ts.map Tq.t) e.sz/\∃q r,ts=q::r/\(q.t.kd=1\/q.t.kd=2))/\(k=1->∀G r V,Is G true r V->(∀t r',r=t::r'->¬X3 t)->∃F',Is F' true (ts.map Tq.t++r) (e.sz+V))/\(2<=k->Is F true (ts.map Tq.t) e.sz):=by
 intro f
 induction f with
 |zero=>intro k ts e h;exact absurd h (by simp[Pp])
 |succ f ih=>
  intro k ts e h;rcases k with _|_|k
  .unfold Pp at h;rcases h with ⟨q,rfl,h2,h3,rfl⟩|⟨a,inn,b,e0,rfl,h2,h3,d,s,C,rfl⟩|⟨q,t,e0,rfl,h2,h3,d,rfl⟩
   .exact⟨by simpa using h2,1,λ_=>⟨Or.inl ⟨q.t,rfl,h2.1,h3,rfl⟩,q,[],rfl,Or.inl h3⟩,(λh=>Qo),λh=>Qo⟩
   .let⟨k1,F,_,_,n⟩:=ih 2 inn e0 C;refine⟨λq i=>?_,F+1,λ_=>⟨Or.inr (Or.inl ⟨a.t,inn.map Tq.t,b.t,Qs,h2.1,h3,d.1,s,by rw[Rx.nz_sz];exact n Qo⟩),a,_,rfl,Or.inr h3⟩,(λh=>Qo),λh=>Qo⟩;simp only[ZR,ZU,eM,or_false]at i;rcases i with rfl|i|rfl
    .exact h2
    .exact k1 q i
    exact d
   let⟨k1,F,c,_,_⟩:=ih 0 q e0 h2;let⟨c,J,K,o,z⟩:=c rfl;refine⟨λx j=>?_,F+1,λ_=>⟨Or.inr (Or.inr ⟨q.map Tq.t,t.t,_,Qs,c,h3.1,d,?_⟩),J,K++[t],by rw[o];rfl,z⟩,(λh=>Qo),λh=>Qo⟩
   .rcases ZU.1 j with h|h
    .exact k1 x h
    rw[ZC.1 h];exact h3
   rw[Rx.nz_sz];exact yZ h3.1 d _ _
  .unfold Pp at h;obtain⟨L,rfl,h2,rfl⟩:=h;refine⟨λq i=>?_,0,(λh=>Qo),λ_=>?_,λh=>Qo⟩
   .let⟨l,H,w⟩:=List.mem_flatten.1 i;obtain⟨x,j,rfl⟩:=eV.1 H;exact(ih 0 x.1 x.2 (h2 x j)).1 q w
   intro G r V D v
   induction L with
   |nil=>exact⟨G,by simpa[Rx.rowOf,Rx.sz]using D⟩
   |cons x L ihL=>
    let⟨F',m⟩:=ihL (λy I=>h2 y (by simp[I]));let⟨_,A,c,_,_⟩:=ih 0 x.1 x.2 (h2 x Qs);let⟨c,_⟩:=c rfl;refine⟨max A F'+1,?_⟩;rw[Rx.rowOf_sz];rw[Rx.rowOf_sz]at m;refine Or.inr (Or.inr ⟨x.1.map Tq.t,_,_,_,?_,NW c (Nat.le_max_left _ _),NW m (Nat.le_max_right _ _),?_,?_⟩)
    .simp
    .simp;omega
    intro t r' g;rcases L with _|⟨y,L⟩
    .exact v t r' (by simpa using g)
    let⟨_,_,n,_,_⟩:=ih 0 y.1 y.2 (h2 y Qs);let⟨_,q,M,o,z⟩:=n rfl;have:q.t=t:=by
     rw[dt,eW]at g;rw[show(y.1)=q::M from o]at g;simp at g;exact g.1
    rw[<-this];unfold X3;omega
  unfold Pp at h;rcases h with h|⟨r,b,q,p,e2,rfl,h2,h3,d,s,rfl⟩
  .let⟨k1,F,_,c,_⟩:=ih 1 ts e h;let⟨F',u⟩:=c rfl 1 [] 0 (Or.inl ⟨rfl,rfl⟩) Qs;exact⟨k1,F',(λh=>Qo),(λh=>Qo),λ_=>by simpa using u⟩
  let⟨k1,F,_,c,_⟩:=ih 1 r p d;let⟨n,B,_,_,o⟩:=ih 2 q e2 s;have E:Is (B+1) true (b.t::q.map Tq.t) e2.sz:=Or.inr (Or.inl ⟨b.t,_,rfl,h2.1,h3,o Qo⟩);let⟨F',u⟩:=c rfl _ _ _ E (by
   intro t r' g;cases g;unfold X3;omega)
  refine⟨λx j=>?_,F',(λh=>Qo),(λh=>Qo),λ_=>?_⟩
  .simp only[ZU,ZR]at j;rcases j with h|rfl|h
   .exact k1 x h
   .exact h2
   exact n x h
  have:((Rx.alt p e2).sz:Int)=(p.sz:Int)+(e2.sz:Int):=by simp[Rx.sz]
  rw[this,eK,dt];exact u
def OA:List Int->Int->Nat->Nat
 |[],_,i=>i
 |k::ks,op,i=>if k=4/\op=0 then i else OA ks (op+Pg.opn k) (i+1)
def Uo:List Int->Int->Nat->Nat
 |[],_,i=>i
 |k::ks,op,i=>if op+Pg.opn k=0 then i+1 else Uo ks (op+Pg.opn k) (i+1)
def kds(ts:List Tq):List Int:=ts.map λq=>q.t.kd
def UM(a b:List Tq):kds (a++b)=kds a++kds b:=by simp[kds]
def Oh(a:List Tq):(kds a).length=a.length:=by simp[kds]
def An{k:Int}(h:k=5\/k=6\/k=7\/k=8):Pg.opn k=0:=by unfold Pg.opn;rw[g_,g_]
def Im:∀(f k:Nat) (ts:List Tq) (e:Rx),Pp f k ts e ->
  (∀(op:Int) (i:Nat) (rest:List Int),1<=op->Uo (kds ts++rest) op i=Uo rest op (i+ts.length)) /\
  (∀(op:Int) (i:Nat) (rest:List Int),1<=op\/(op=0/\k<=1)->OA (kds ts++rest) op i=OA rest op (i+ts.length)) /\
  (k=0->∃m,1<=m/\m<=ts.length/\(∀i rest,Uo (kds ts++rest) 0 i=i+m)/\∀q∈ts.drop m,X3 q.t):=by
 intro f
 induction f with
 |zero=>intro k ts e h;exact absurd h (by simp[Pp])
 |succ f ih=>
  intro k ts e h;rcases k with _|_|k
  .unfold Pp at h;rcases h with ⟨q,rfl,h2,h3,rfl⟩|⟨a,inn,b,e0,rfl,h2,h3,o,p,B,rfl⟩|⟨q,t,e0,rfl,h2,h3,o,rfl⟩
   .have l:Pg.opn q.t.kd=0:=by rw[h3];rfl
    refine⟨λop i rest c=>?_,λop i rest c=>?_,λ_=>⟨1,Qo,Qs,λi rest=>?_,Qs⟩⟩
    .simp only[kds,dt,eJ,Zt,dz,Uo,l,Int.add_zero];rw[g_];rfl
    .simp only[kds,dt,eJ,Zt,dz,OA,l,Int.add_zero];rw[g_];rfl
    simp[kds,Uo,l]
   .let⟨g,n,_⟩:=ih 2 inn e0 B;have ha:Pg.opn a.t.kd=1:=by rw[h3];rfl
    have s:Pg.opn b.t.kd=-1:=by rw[p];rfl
    have d:kds (a::(inn++[b]))=a.t.kd::(kds inn++[b.t.kd]):=by simp[kds]
    have j:(a::(inn++[b])).length=inn.length+2:=Qs
    refine⟨λop i rest c=>?_,λop i rest c=>?_,λ_=>⟨inn.length+2,Qo,Qs,λi rest=>?_,λq v=>?_⟩⟩
    .rw[d,Zt,Uo,ha,g_,Zs,g _ _ _ Qo,eS,Uo,s,g_,j];congr 1<;>omega
    .rw[d,Zt,OA,ha,g_,Zs,n _ _ _ (Or.inl Qo),eS,OA,s,g_,j];congr 1<;>omega
    .rw[d,Zt,Uo,ha,g_,Zs,g _ _ _ Qo,eS,Uo,s,p_];omega
    rw[eI (by rw[j];omega)]at v;cases v
   let⟨g,n,C⟩:=ih 0 q e0 h2;let⟨m,F,m2,G,H⟩:=C rfl;have l:Pg.opn t.t.kd=0:=An (by unfold X3 at o;omega);have A:t.t.kd≠4:=by unfold X3 at o;omega
   have d:kds (q++[t])=kds q++[t.t.kd]:=by simp[kds]
   have j:(q++[t]).length=q.length+1:=Qs
   refine⟨λop i rest c=>?_,λop i rest c=>?_,λ_=>⟨m,F,Qo,λi rest=>?_,λx w=>?_⟩⟩
   .rw[d,Zs,g _ _ _ c,eS,Uo,l,g_,j];congr 1;omega
   .rw[d,Zs,n _ _ _ c,eS,OA,l,g_,j];congr 1;omega
   .rw[d,Zs];exact G _ _
   rw[eH m2]at w;rcases ZU.1 w with h|h
   .exact H x h
   rw[ZC.1 h];exact o
  .unfold Pp at h;obtain⟨L,rfl,h2,rfl⟩:=h;refine⟨λop i rest c=>?_,λop i rest c=>?_,λh=>Qo⟩
   .induction L generalizing i with
    |nil=>simp[kds]
    |cons x L ihL=>
     let⟨g,_,_⟩:=ih 0 x.1 x.2 (h2 x Qs);have:=ihL (λy u=>h2 y (by simp[u])) (i+x.1.length);rw[dt,eW,UM,Zs,g _ _ _ c,this,Zl];congr 1;omega
   induction L generalizing i with
   |nil=>simp[kds]
   |cons x L ihL=>
    let⟨_,n,_⟩:=ih 0 x.1 x.2 (h2 x Qs);have:=ihL (λy u=>h2 y (by simp[u])) (i+x.1.length);rw[dt,eW,UM,Zs,n _ _ _ Qo,this,Zl];congr 1;omega
  unfold Pp at h;rcases h with h|⟨r,b,q,z,e2,rfl,h2,h3,o,p,rfl⟩
  .let⟨g,n,_⟩:=ih 1 ts e h;exact⟨g,λop i rest c=>n op i rest Qo,λh=>Qo⟩
  let⟨g,n,_⟩:=ih 1 r z o;let⟨D,E,_⟩:=ih 2 q e2 p;have l:Pg.opn b.t.kd=0:=by rw[h3];rfl
  have d:kds (r++b::q)=kds r++(b.t.kd::kds q):=by simp[kds]
  have j:(r++b::q).length=r.length+1+q.length:=Qp
  refine⟨λop i rest c=>?_,λop i rest c=>?_,λh=>Qo⟩
  .rw[d,Zs,g _ _ _ c,Zt,Uo,l,g_,Int.add_zero,D _ _ _ c,j];congr 1;omega
  rw[d,Zs,n _ _ _ Qo,Zt,OA,l,g_,Int.add_zero,E _ _ _ Qo,j];congr 1;omega
def Sm(p:Pg.Pt)(q:Tq):Prop:=p.kd=q.t.kd/\p.mo=q.t.mo/\p.f=q.f/\(p.kd=8->p.le=q.le)
def XK.len{α β:Type}{R:α->β->Prop}{l:List α}{m:List β}(h:XK R l m):l.length=m.length:=by
 induction h with
 |nil=>rfl
 |cons h t ih=>simp[ih]
def XK.split{α β:Type}{R:α->β->Prop}:∀(a:List β) (b:List β) (l:List α),XK R l (a++b)->XK R (l.take a.length) a/\XK R (l.drop a.length) b
 |[],b,l,h=>⟨by simpa using XK.nil,by simpa using h⟩
 |x::a,b,l,h=>by
  cases h with
  |cons h t=>
   let⟨h1,h2⟩:=XK.split a b _ t;exact⟨by simpa using XK.cons h h1,by simpa using h2⟩
def XK.kds{ps:List Pg.Pt}{ts:List Tq}(h:XK Sm ps ts):ps.map (λp=>p.kd)=kds ts:=by
 induction h with
 |nil=>rfl
 |cons h t ih=>
  simp only[dt,ih,Go.Proofs.YtoaaklhpmhjhkaaGreat.kds];rw[h.1]
def XK.two{ps:List Pg.Pt}(h:XK Sm ps ts):ps.map (λp=>(p.kd,p.mo))=(ts.map Tq.t).map (λt=>(t.kd,t.mo)):=by
 induction h with
 |nil=>rfl
 |cons h t ih=>simp only[dt,ih];rw[h.1,h.2.1]
def Ih{f:Nat}{ps:List Pg.Pt}(h:Pp f 0 ts e)(z:XK Sm ps ts):Pg.ig ps=Pg.gW e.sz:=by
 let⟨_,F,j,_,_⟩:=Sq f 0 ts e h;let⟨g,_⟩:=j rfl;let⟨i,d,_⟩:=machine F false (ts.map Tq.t) e.sz g;have c:=d rfl ⟨0,0,[]⟩ Qs Qs;rw[Pg.ig,Re ps ((ts.map Tq.t).map U5) (by rw[z.two];simp[U5]),c];simp only;have h0:Pg.gW (0+0)=0:=rfl;have h1:=SY (a:=(e.sz:Int)) (b:=0) i Qo;rw[h0,show(0:Int)+Pg.gW (e.sz:Int)=Pg.gW (e.sz:Int)+0 by omega,h1];simp
def Ic:Pg.gW (n:Int)=0<->n=0:=by rw[VJ];split<;>omega
def Jm(s:ByteArray)(h:(Pg.ie (Y7 s) s.size).ok=true):∃e qs f,XW (qs.map Tq.t)=s.data.toList/\(∀q∈qs,UC q)/\XK (Mo s) (Pg.ie (Y7 s) s.size).ps qs/\Pp f 2 qs e:=by
 obtain⟨qs,f,e,h1,h2,h3,a⟩:=EE s h;exact⟨e,qs,f,h1,h2,h3,a⟩
open Classical in
noncomputable def TZ(s:ByteArray):Rx:=if h:(Pg.ie (Y7 s) s.size).ok=true then Classical.choose (Jm s h) else .eps
def Ua(s:ByteArray)(h:(Pg.ie (Y7 s) s.size).ok=true):∃qs f,XW (qs.map Tq.t)=s.data.toList/\(∀q∈qs,UC q)/\XK (Mo s) (Pg.ie (Y7 s) s.size).ps qs/\Pp f 2 qs (TZ s):=by
 have:=Classical.choose_spec (Jm s h);unfold TZ;rw[dif_pos h];exact this
def XK.twoP{ps:List Pg.Pt}(h:XK (Mo s) ps ts):ps.map (λp=>(p.kd,p.mo))=(ts.map Tq.t).map (λt=>(t.kd,t.mo)):=by
 induction h with
 |nil=>rfl
 |cons h t ih=>simp only[dt,ih];rw[h.1,h.2.1]
def LE{f:Nat}{ps:List Pg.Pt}(h:Pp f 2 ts e)(hb:ps.map (λp=>(p.kd,p.mo))=(ts.map Tq.t).map (λt=>(t.kd,t.mo))):Pg.ig ps=Pg.gW e.sz:=by
 obtain⟨_,F,_,_,g⟩:=Sq f 2 ts e h;have c:=g (Zg _);obtain⟨j,_,d⟩:=machine F true (ts.map Tq.t) e.sz c;obtain⟨i,k,a,_,_,b⟩:=d rfl ⟨0,0,[]⟩ (by simp) (by simp);rw[Pg.ig,Re ps ((ts.map Tq.t).map U5) (by rw[hb];simp[U5]),a];simp only;rw[b];simp
def Sg(s:ByteArray)(h:(Pg.ie (Y7 s) s.size).ok=true):Pg.ig (Pg.ie (Y7 s) s.size).ps=Pg.gW (TZ s).sz:=by
 obtain⟨b,f,_,_,h3,a⟩:=Ua s h;exact LE a h3.twoP
def Y4(es:Nat->Rx):Nat->Nat
 |0=>0
 |k+1=>Y4 es k+(es k).sz
def X7(es:Nat->Rx){a b:Nat}(h:a<=b):Y4 es a<=Y4 es b:=by
 induction b with
 |zero=>
   have:a=0:=by omega
   subst this;exact Zg _
 |succ b ih=>
  by_cases e:a=b+1
  .subst e;exact Zg _
  have:=ih (by omega);simp only[Y4];omega
def Ok(es:Nat->Rx)(u:Nat->Int):∀n,(∀i,i<n->u i=Pg.gW (es i).sz)->¬96<X8 u n->X8 u n=(Y4 es n:Int)/\Y4 es n<=96:=by
 intro n d hs;have h2:=(KI (u:=u) (v:=λi=>((es i).sz:Int)) n (λi c=>⟨by omega,d i c⟩));have h3:∀m,X8 (λi=>((es i).sz:Int)) m=(Y4 es m:Int):=by
  intro m
  induction m with
  |zero=>rfl
  |succ m ih=>simp only[X8,Y4,ih];omega
 rw[h3]at h2;have a:¬96<(Y4 es n:Int):=λh=>hs (h2.1.2 h)
 have b:=h2.2 a;exact⟨b,by omega⟩
end
section
open Go.RowKit
def KD(x:List Nat)(i j:Nat):List Nat:=(x.drop i).take (j-i)
variable {s:ByteArray}{d kd:Int}{ck:List Int}{x:List Nat}{K b c i j k n:Nat}{E:Nat->N_}{toN:Nat->Nat->Nat}
def ND(h:i<=j)(z:j<=x.length):(KD x i j).length=j-i:=by
 unfold KD;rw[eE,dY];omega
def KG(h1:i<=k)(h2:k<=j):KD x i j=KD x i k++KD x k j:=by
 unfold KD;rw[show j-i=(k-i)+(j-k) by omega,eF,eC,show i+(k-i)=k by omega]
def KH(x:List Nat)(i:Nat):KD x i i=[]:=by unfold KD;rw[Nat.sub_self];rfl
def Jl(h:i<=j)(z:j<=x.length){u v:List Nat}(e:KD x i j=u++v):i+u.length<=j/\u=KD x i (i+u.length)/\v=KD x (i+u.length) j:=by
 have a:=ND h z;rw[e,Zl]at a;have h1:i+u.length<=j:=Qo
 rw[KG (k:=i+u.length) Qo h1]at e;have:=List.append_inj e (by rw[ND Qo Qo];omega);exact⟨h1,this.1.symm,this.2.symm⟩
def En(L:Ln)(x:List Nat)(f:Nat->Prop)(j:Nat):Prop:=∃i,i<=j/\f i/\L (KD x i j)
def Oa{L:Ln}{f g:Nat->Prop}(h:∀i,i<=j->f i->g i):En L x f j->En L x g j:=λ⟨i,h1,h2,h3⟩=>⟨i,h1,h i h1 h2,h3⟩
def yb{f:Nat->Prop}(z:j<=x.length):En Ep x f j<->f j:=by
 constructor
 .rintro ⟨i,h1,h2,h3⟩;have a:=h3;have:=ND h1 z;rw[a]at this;have:i=j:=by simp at this;omega
  rw[<-this];exact h2
 exact λh=>⟨j,Zg _,h,KH x j⟩
def Bp{L M:Ln}{f:Nat->Prop}(z:j<=x.length):En (Cc L M) x f j<->En M x (En L x f) j:=by
 constructor
 .rintro ⟨i,h1,h2,u,v,e,h,l⟩;let⟨a,b,c⟩:=Jl h1 z e;exact⟨i+u.length,a,⟨i,Qo,h2,by rw[<-b];exact h⟩,by rw[<-c];exact l⟩
 rintro ⟨k,h1,⟨i,h2,h3,d⟩,g⟩;exact⟨i,Qo,h3,KD x i k,KD x k j,KG h2 h1,d,g⟩
def yD{g:N_}{f:Nat->Prop}:¬En (Li g) x f 0:=by
 rintro ⟨i,h1,_,b,e,_⟩;have:=congrArg List.length e;unfold KD at this;rw[eE]at this;simp at this
def yc{g:N_}{f:Nat->Prop}(H:x[j]?=some c)(z:c<256):En (Li g) x f (j+1)<->f j/\g c=true:=by
 have h:=(Zi.1 H).1;have hs:KD x j (j+1)=[c]:=by
  unfold KD;rw[show j+1-j=1 by omega,dS h,(Zi.1 H).2];rfl
 constructor
 .rintro ⟨i,h1,h2,b,e,_,d⟩;have a:=congrArg List.length e;rw[ND h1 Qo]at a;have:i=j:=by simp at a;omega
  subst this;rw[hs]at e;cases e;exact⟨h2,d⟩
 rintro ⟨h1,h2⟩;exact⟨j,Qo,h1,c,hs,z,h2⟩
def KZ{L:Ln}{g:Nat->Prop}(z:∀j,j<=x.length->En L x g j->g j):∀ {w:List Nat},St L w->∀i j,i<=j->j<=x.length->g i->KD x i j=w->g j:=by
 intro w h
 induction h with
 |nil=>
  intro i j h1 h2 h3 d;have:=ND h1 h2;rw[d]at this;have:i=j:=by simp at this;omega
  rw[<-this];exact h3
 |@cons u v h _ ih=>
  intro i j h1 h2 h3 d;let⟨a,b,c⟩:=Jl h1 h2 d;exact ih (i+u.length) j a h2 (z _ Qo ⟨i,Qo,h3,by rw[<-b];exact h⟩) c.symm
def zS{L:Ln}{f g:Nat->Prop}(h1:∀j,j<=x.length->f j->g j)(h2:∀j,j<=x.length->g j->En (St L) x f j)(h3:∀j,j<=x.length->En L x g j->g j){j:Nat}(z:j<=x.length):g j<->En (St L) x f j:=
 ⟨h2 j z,λ⟨i,a,b,c⟩=>KZ h3 c i j a z (h1 i Qo b) rfl⟩
def zR{L:Ln}{f g:Nat->Prop}(h1:∀j,j<=x.length->En L x f j->g j)(h2:∀j,j<=x.length->g j->En (Cc L (St L)) x f j)(h3:∀j,j<=x.length->En L x g j->g j){j:Nat}(z:j<=x.length):g j<->En (Cc L (St L)) x f j:=
 ⟨h2 j z,λh=>by
  let⟨i,a,b,c⟩:=(Bp z).1 h;exact KZ h3 c i j a z (h1 i Qo b) rfl⟩
def Fq{L:Ln}{u v:List Nat}(h:St L u)(k:L v):St L (u++v):=by
 induction h with
 |nil=>exact St.one k
 |cons h1 _ ih=>rw[Zs];exact .cons h1 ih
def JS{L:Ln}{f:Nat->Prop}:En L x (En (St L) x f) j->En (St L) x f j:=by
 rintro ⟨k,h1,⟨i,h2,h3,a⟩,b⟩;exact⟨i,Qo,h3,by rw[KG h2 h1];exact Fq a b⟩
def JR{L:Ln}{f:Nat->Prop}(_hj:j<=x.length):En L x (En (Cc L (St L)) x f) j->En (Cc L (St L)) x f j:=by
 rintro ⟨k,h1,⟨i,h2,h3,u,v,e,b,c⟩,a⟩;exact⟨i,Qo,h3,u,v++KD x k j,by rw[KG h2 h1,e,Zs],b,Fq c a⟩
end
section
namespace Bm
def leastTo(E:Nat->Nat->Bool)(a:Nat):Nat->Nat
 |0=>a
 |k+1=>if leastTo E a k<k then leastTo E a k else if E k a then k else a
def least(E:Nat->Nat->Bool)(a:Nat):Nat:=leastTo E a a
def leastTo_spec(E:Nat->Nat->Bool)(a:Nat):∀k,k<=a->(leastTo E a k<k/\E (leastTo E a k) a=true/\∀b,b<leastTo E a k->E b a=false)\/(leastTo E a k=a/\∀b,b<k->E b a=false)
 |0,_=>Or.inr ⟨rfl,λb c=>by omega⟩
 |k+1,hk=>by
  rw[leastTo];rcases leastTo_spec E a k (by omega)with ⟨h1,h2,h3⟩|⟨h1,h2⟩
  .rw[dF h1];exact Or.inl ⟨by omega,h2,h3⟩
  rw[dG (by omega)];cases h:E k a
  .simp only[eN,eU];refine Or.inr ⟨trivial,λb c=>?_⟩;by_cases e:b=k
   .subst e;exact h
   exact h2 b (by omega)
  simp only[dB];exact Or.inl ⟨by omega,h,h2⟩
structure Eqv (E:Nat->Nat->Bool) (n:Nat):Prop where
 refl:∀a,a<n->E a a=true
 symm:∀a b,a<n->b<n->E a b=true->E b a=true
 trans:∀a b c,a<n->b<n->c<n->E a b=true->E b c=true->E a c=true
def least_le(E:Nat->N_)(a:Nat):least E a<=a:=by
 rcases leastTo_spec E a a (Zg _)with ⟨h1,_⟩|⟨h1,_⟩<;>(unfold least;omega)
variable {b:Nat}{E:Nat->N_}
def least_min{a:Nat}(h:b<least E a):E b a=false:=by
 rcases leastTo_spec E a a (Zg _)with ⟨_,_,h3⟩|⟨h1,h2⟩
 .exact h3 b h
 exact h2 b (by unfold least at h;omega)
variable {n:Nat}
def least_like{a:Nat}(z:Eqv E n)(ha:a<n):E (least E a) a=true:=by
 rcases leastTo_spec E a a (Zg _)with ⟨_,h2,_⟩|⟨h1,_⟩
 .exact h2
 unfold least;rw[h1];exact z.refl a ha
def least_eq{a r:Nat}(h:E r a=true)(H:∀b,b<r->E b a=false)(z:E (least E a) a=true):least E a=r:=by
 have h1:¬least E a<r:=λh2=>by rw[H _ h2]at z;cases z
 have h2:¬r<least E a:=λh3=>by rw[least_min h3]at h;cases h
 omega
def least_of_like{a:Nat}(z:Eqv E n)(ha:a<n)(H:b<n)(h:E a b=true):least E a=least E b:=by
 have c:=least_like z ha;have lb:=least_like z H;have d:=least_le E a;have e:=least_le E b;have h1:¬least E a<least E b:=λh2=>by
  have:=z.trans (least E a) a b Qo ha H c h;rw[least_min h2]at this;cases this
 have h2:¬least E b<least E a:=λh3=>by
  have:=z.trans (least E b) b a Qo H ha lb (z.symm a b ha H h);rw[least_min h3]at this;cases this
 omega
def like_of_least{a:Nat}(z:Eqv E n)(ha:a<n)(H:b<n)(h:least E a=least E b):E a b=true:=by
 have c:=least_like z ha;have lb:=least_like z H;have d:=least_le E a;rw[<-h]at lb;exact z.trans a (least E a) b ha Qo H (z.symm _ _ Qo ha c) lb
def least_idem{a:Nat}(z:Eqv E n)(ha:a<n):least E (least E a)=least E a:=by
 have b:=least_le E a;exact least_of_like z Qo ha (least_like z ha)
def reps(E:Nat->Nat->Bool)(n:Nat):List Nat:=(List.range n).filter λa=>least E a==a
def cnt(E:Nat->Nat->Bool)(n:Nat):Nat:=(reps E n).length
def idx(E:Nat->Nat->Bool)(a:Nat):Nat:=cnt E (least E a)
def reps_succ(E:Nat->N_)(n:Nat):reps E (n+1)=reps E n++if least E n=n then [n] else []:=by
 unfold reps;rw[ZT,List.filter_append];congr 1;by_cases h:least E n=n
 .rw[dF h];simp[h]
 rw[dG h];simp[h]
def cnt_succ(E:Nat->N_)(n:Nat):cnt E (n+1)=cnt E n+if least E n=n then 1 else 0:=by
 unfold cnt;rw[reps_succ,Zl];split<;>rfl
def cnt_mono(E:Nat->N_){a b:Nat}(h:a<=b):cnt E a<=cnt E b:=by
 induction b with
 |zero=>
   have:a=0:=Qo
   subst this;exact Zg _
 |succ b ih=>
  by_cases e:a=b+1
  .subst e;exact Zg _
  have:=ih Qo;rw[cnt_succ];omega
def cnt_le(E:Nat->N_)(n:Nat):cnt E n<=n:=by
 unfold cnt reps;have:=List.length_filter_le (λa=>least E a==a) (List.range n);simpa using this
def reps_get(E:Nat->N_):∀(n a:Nat),a<n->least E a=a->(reps E n)[cnt E a]?=some a
 |0,a,h,_=>Qo
 |n+1,a,h,hr=>by
  rw[reps_succ];by_cases e:a=n
  .subst e;rw[dF hr,ZG (by unfold cnt;omega)];simp[cnt]
  have h1:=reps_get E n a Qo hr;rw[Zv (Zi.1 h1).1];exact h1
variable {k:Nat}
def reps_mem{a:Nat}(h:(reps E n)[k]?=some a):a<n/\least E a=a/\cnt E a=k:=by
 induction n with
 |zero=>simp[reps]at h
 |succ n ih=>
  rw[reps_succ]at h;by_cases d:k<(reps E n).length
  .rw[Zv d]at h;let⟨h1,h2,h3⟩:=ih h;exact⟨Qo,h2,h3⟩
  rw[ZG Qo]at h;by_cases c:least E n=n
  .rw[dF c]at h;have b:k-(reps E n).length=0:=by
    have:=(Zi.1 h).1;simp at this;omega
   rw[b]at h;simp at h;subst h;exact⟨Qo,c,by unfold cnt;omega⟩
  rw[dG c]at h;simp at h
def cnt_lt{a:Nat}(z:least E a=a)(h:a<b):cnt E a<cnt E b:=by
 have h1:=cnt_succ E a;rw[dF z]at h1;have h2:=cnt_mono E (show a+1<=b by omega);omega
def cnt_inj{a:Nat}(ha:least E a=a)(z:least E b=b)(h:cnt E a=cnt E b):a=b:=by
 rcases dJ a b with h1|h1|h1
 .have:=cnt_lt ha h1;omega
 .exact h1
 have:=cnt_lt z h1;omega
def idx_lt{a:Nat}(z:Eqv E n)(ha:a<n):idx E a<cnt E n:=by
 have:=least_le E a;exact cnt_lt (least_idem z ha) Qo
def idx_eq{a:Nat}(z:Eqv E n)(ha:a<n)(H:b<n):idx E a=idx E b<->E a b=true:=by
 constructor
 .intro h;exact like_of_least z ha H (cnt_inj (least_idem z ha) (least_idem z H) h)
 intro h;unfold idx;rw[least_of_like z ha H h]
def idx_rep{a:Nat}(h:least E a=a):idx E a=cnt E a:=by unfold idx;rw[h]
def rep_like{a r:Nat}(z:Eqv E n)(ha:a<n)(h:(reps E a)[k]?=some r):E r a=true<->k=idx E a:=by
 let⟨h1,h2,h3⟩:=reps_mem h;rw[<-idx_eq z Qo ha,idx_rep h2,h3]
def rep_new{a:Nat}(z:Eqv E n)(ha:a<n):(idx E a=cnt E a<->least E a=a)/\idx E a<=cnt E a:=by
 have b:=least_le E a;refine⟨⟨λh=>?_,λh=>idx_rep h⟩,cnt_mono E b⟩;rcases ZD (least E a) a with h1|h1
 .have:=cnt_lt (least_idem z ha) h1;unfold idx at h;omega
 omega
end Bm
namespace Bm
structure Aut where
 N:Nat
 K:Nat
 to:Nat->Nat->Int
 vd:Nat->Int
def ext(A:Aut):Int->List Nat->Int
 |s,[]=>if s<0 then -1 else A.vd s.toNat
 |s,k::w=>if s<0 then -1 else ext A (A.to s.toNat k) w
def ext_none(A:Aut)(w:List Nat){s:Int}(h:s<0):ext A s w=-1:=by
 cases w<;>simp[ext,h]
def ext_nil(A:Aut)(a:Nat):ext A (a:Int) []=A.vd a:=by
 simp only[ext];rw[g_,ZE]
def ext_cons(A:Aut)(a k:Nat)(w:List Nat):ext A (a:Int) (k::w)=ext A (A.to a k) w:=by
 simp only[ext];rw[g_,ZE]
def Kd(A:Aut)(w:List Nat):Prop:=∀k∈w,k<A.K
def Kd.nil(A:Aut):Kd A []:=λk a=>by cases a
variable {A:Aut}{k:Nat}
def Kd.cons{w:List Nat}(z:k<A.K)(H:Kd A w):Kd A (k::w):=λj a=>by
 rcases ZR.1 a with rfl|h
 .exact z
 exact H j h
def Kd.tail{w:List Nat}(h:Kd A (k::w)):k<A.K/\Kd A w:=⟨h k Qs,λj a=>h j (by simp[a])⟩
def Al(A:Aut)(a b:Int):Prop:=∀w,Kd A w->ext A a w=ext A b w
def Al.refl(A:Aut)(a:Int):Al A a a:=λ_ _=>rfl
def Al.symm{a b:Int}(h:Al A a b):Al A b a:=λw c=>(h w c).symm
def Al.trans{a b c:Int}(h:Al A a b)(k:Al A b c):Al A a c:=λw d=>(h w d).trans (k w d)
variable {b:Nat}
def Al.vd{a:Nat}(h:Al A a b):A.vd a=A.vd b:=by
 have:=h [] (Kd.nil A);rw[ext_nil,ext_nil]at this;exact this
def Al.to{a:Nat}(h:Al A a b)(z:k<A.K):Al A (A.to a k) (A.to b k):=λw c=>by
 have:=h (k::w) (c.cons z);rw[ext_cons,ext_cons]at this;exact this
structure Aut.Good (A:Aut):Prop where
 rng:∀s k,s<A.N->k<A.K->-1<=A.to s k/\A.to s k<A.N
 live:∀s:Nat,s<A.N->¬Al A s (-1)
def gAt(A:Aut)(of:Nat->Int)(a k:Nat):Int:=if A.to a k=-1 then -1 else of (A.to a k).toNat
def Tg(A:Aut)(of:Nat->Int)(a b:Nat):Bool:=of a==of b&&(List.range A.K).all λk=>gAt A of a k==gAt A of b k
def Tg_iff(A:Aut)(of:Nat->Int)(a b:Nat):Tg A of a b=true<->of a=of b/\∀k,k<A.K->gAt A of a k=gAt A of b k:=by
 simp[Tg]
def Tg_eqv(A:Aut)(of:Nat->Int)(n:Nat):Eqv (Tg A of) n:=
 ⟨λa _=>(Tg_iff A of a a).2 ⟨rfl,λ_ _=>rfl⟩,
  λa b _ _ h=>by
  let⟨h1,h2⟩:=(Tg_iff A of a b).1 h;exact(Tg_iff A of b a).2 ⟨h1.symm,λk d=>(h2 k d).symm⟩,
  λa b c _ _ _ h e=>by
  let⟨h1,h2⟩:=(Tg_iff A of a b).1 h;let⟨k1,f⟩:=(Tg_iff A of b c).1 e;exact(Tg_iff A of a c).2 ⟨h1.trans k1,λk d=>(h2 k d).trans (f k d)⟩⟩
def Tg_al(H:A.Good){of:Nat->Int}(h:∀a b:Nat,a<A.N->b<A.N->Al A a b->of a=of b){a b:Nat}(ha:a<A.N)(J:b<A.N)(z:Al A a b):Tg A of a b=true:=by
 refine(Tg_iff A of a b).2 ⟨h a b ha J z,λk e=>?_⟩;have c:=z.to e;have g:=H.rng a k ha e;have i:=H.rng b k J e;unfold gAt;by_cases h1:A.to a k=-1
 .by_cases h2:A.to b k=-1
  .rw[dF h1,dF h2]
  exfalso;let⟨m,d⟩:=ZA (show 0<=A.to b k by omega);rw[h1,d]at c;exact H.live m Qo c.symm
 by_cases h2:A.to b k=-1
 .exfalso;let⟨m,d⟩:=ZA (show 0<=A.to a k by omega);rw[h2,d]at c;exact H.live m Qo c
 rw[dG h1,dG h2];let⟨m,d⟩:=ZA (show 0<=A.to a k by omega);let⟨p,f⟩:=ZA (show 0<=A.to b k by omega);rw[d,f]at c ⊢;rw[ZE,ZE];exact h m p Qo Qo c
variable {n:Nat}{E:Nat->N_}
def finer_eq{F:Nat->N_}(H:Eqv E n)(z:Eqv F n)(h:∀a b,a<n->b<n->F a b=true->E a b=true)(J:cnt F n<=cnt E n):
  ∀a b,a<n->b<n->E a b=true->F a b=true:=by
 have o:∀a,a<n->least E a=a->least F a=a:=λa ha f=>by
  have h1:=least_le F a;rcases ZD (least F a) a with h2|h2
  .have h3:=h _ _ Qo ha (least_like z ha);have p:=least_of_like H Qo ha h3;have r:=least_le E (least F a);rw[f]at p;omega
  omega
 have q:∀k,k<=n->cnt E k<=cnt F k:=by
  intro k
  induction k with
  |zero=>intro _;exact Zg _
  |succ k ih=>
   intro c;have:=ih Qo;rw[cnt_succ,cnt_succ];by_cases e:least E k=k
   .rw[dF e,dF (o k Qo e)];omega
   rw[dG e];omega
 have hs:∀k,k<=n->cnt F n-cnt F k>=cnt E n-cnt E k/\cnt F k<=cnt F n/\cnt E k<=cnt E n:=by
  intro k c;refine⟨?_,cnt_mono F c,cnt_mono E c⟩;obtain⟨d,rfl⟩:∃d,n=k+d:=⟨n-k,Qo⟩;have:∀j,j<=d->cnt E (k+j)-cnt E k<=cnt F (k+j)-cnt F k:=by
   intro j
   induction j with
   |zero=>intro _;simp
   |succ j ih=>
    intro s;have h1:=ih Qo;have h2:=cnt_mono E (show k<=k+j by omega);have h3:=cnt_mono F (show k<=k+j by omega);rw[<-ZN,cnt_succ,cnt_succ];by_cases e:least E (k+j)=k+j
    .rw[dF e,dF (o _ Qo e)];omega
    rw[dG e];omega
  exact this d (Zg _)
 have g:∀k,k<=n->cnt E k=cnt F k:=λk c=>by
  have h1:=q k c;have h2:=hs k c;omega
 have i:∀a,a<n->least F a=a->least E a=a:=λa ha f=>by
  have h1:=g a Qo;have h2:=g (a+1) Qo;rw[cnt_succ,cnt_succ,dF f]at h2;by_cases e:least E a=a
  .exact e
  rw[dG e]at h2;omega
 have f:∀a,a<n->least E a=least F a:=λa ha=>by
  have h1:=least_le F a;have h2:=i (least F a) Qo (least_idem z ha);have h3:=least_of_like H Qo ha (h _ _ Qo ha (least_like z ha));rw[<-h3,h2]
 intro a b ha m l;exact like_of_least z ha m (by rw[<-f a ha,<-f b m];exact least_of_like H ha m l)
def idxI(E:Nat->Nat->Bool)(a:Nat):Int:=(idx E a:Int)
structure Part (A:Aut) (E:Nat->Nat->Bool):Prop where
 eqv:Eqv E A.N
 vd:∀a b,a<A.N->b<A.N->E a b=true->A.vd a=A.vd b
 al:∀a b:Nat,a<A.N->b<A.N->Al A a b->E a b=true
def Part.first(z:A.Good):Part A (Tg A λa=>A.vd a+1):=
 ⟨Tg_eqv _ _ _,λa b _ _ h=>by have:=((Tg_iff _ _ _ _).1 h).1;omega,λa b ha c h=>Tg_al z (λa b _ _ h=>by rw[h.vd]) ha c h⟩
def Part.next(z:A.Good)(h:Part A E):Part A (Tg A (idxI E))/\∀a b,a<A.N->b<A.N->Tg A (idxI E) a b=true->E a b=true:=by
 have f:∀a b,a<A.N->b<A.N->Tg A (idxI E) a b=true->E a b=true:=λa b ha c e=>by
  have h1:=((Tg_iff _ _ _ _).1 e).1;exact(idx_eq h.eqv ha c).1 (by unfold idxI at h1;omega)
 refine⟨⟨Tg_eqv _ _ _,λa b ha c e=>h.vd a b ha c (f a b ha c e),λa b ha c d=>Tg_al z (λa b ha c d=>?_) ha c d⟩,f⟩;unfold idxI;rw[(idx_eq h.eqv ha c).2 (h.al a b ha c d)]
def Part.stable(z:A.Good)(h:Part A E)(H:cnt (Tg A (idxI E)) A.N<=cnt E A.N):∀a b:Nat,a<A.N->b<A.N->(Tg A (idxI E) a b=true<->Al A a b):=by
 let⟨h2,g⟩:=h.next z;have i:=finer_eq h.eqv h2.eqv g H;have n:∀(w:List Nat) (a b:Nat),Kd A w->a<A.N->b<A.N->E a b=true->ext A a w=ext A b w:=by
  intro w
  induction w with
  |nil=>
   intro a b _ ha d e;simp only[ext,ZE];rw[g_,g_];exact h.vd a b ha d e
  |cons k w ih=>
   intro a b f ha d e;let⟨k1,o⟩:=f.tail;have c:=((Tg_iff _ _ _ _).1 (i a b ha d e)).2 k k1;have q:=z.rng a k ha k1;have r:=z.rng b k d k1;simp only[ext,ZE];rw[g_,g_];unfold gAt at c;by_cases h1:A.to a k=-1
   .rw[dF h1]at c;by_cases h2:A.to b k=-1
    .rw[h1,h2]
    rw[dG h2]at c;unfold idxI at c;omega
   rw[dG h1]at c;by_cases h2:A.to b k=-1
   .rw[dF h2]at c;unfold idxI at c;omega
   rw[dG h2]at c;let⟨m,j⟩:=ZA (show 0<=A.to a k by omega);let⟨p,l⟩:=ZA (show 0<=A.to b k by omega);rw[j,l]at c ⊢;rw[ZE,ZE]at c;exact ih m p o Qo Qo ((idx_eq h.eqv Qo Qo).1 (by unfold idxI at c;omega))
 intro a b ha d;constructor
 .intro c w f;exact n w a b f ha d (g a b ha d c)
 exact h2.al a b ha d
open Classical in
noncomputable def alB(A:Aut)(a b:Nat):Bool:=decide (Al A a b)
def alB_iff(A:Aut)(a b:Nat):alB A a b=true<->Al A a b:=by simp[alB]
def alB_eqv(A:Aut)(n:Nat):Eqv (alB A) n:=
 ⟨λa _=>(alB_iff A a a).2 (Al.refl A a),λa b _ _ h=>(alB_iff A b a).2 ((alB_iff A a b).1 h).symm,λa b c _ _ _ h k=>(alB_iff A a c).2 (((alB_iff A a b).1 h).trans ((alB_iff A b c).1 k))⟩
def least_congr{F:Nat->N_}(z:Eqv E n)(H:Eqv F n)(h:∀a b,a<n->b<n->(E a b=true<->F a b=true)){a:Nat}(ha:a<n):least E a=least F a:=by
 have h1:=least_le E a;have h2:=least_le F a;have h3:=least_of_like H Qo ha ((h _ _ Qo ha).1 (least_like z ha));have c:=least_of_like z Qo ha ((h _ _ Qo ha).2 (least_like H ha));have d:=least_le F (least E a);have e:=least_le E (least F a);omega
def reps_congr{F:Nat->N_}(z:Eqv E n)(H:Eqv F n)(h:∀a b,a<n->b<n->(E a b=true<->F a b=true)):∀m,m<=n->reps E m=reps F m
 |0,_=>rfl
 |m+1,hm=>by rw[reps_succ,reps_succ,reps_congr z H h m Qo,least_congr z H h (show m<n by omega)]
def idx_congr{F:Nat->N_}(z:Eqv E n)(H:Eqv F n)(h:∀a b,a<n->b<n->(E a b=true<->F a b=true)){a:Nat}(ha:a<n):idx E a=idx F a:=by
 have:=least_le F a;unfold idx cnt;rw[least_congr z H h ha,reps_congr z H h _ Qo]
def st(A:Aut)(i:Nat):Int:=if i=A.N then -1 else i
variable {toN:Nat->Nat->Nat}
def pairs_al{t:Nat->N_}(z:∀i k,i<=A.N->k<A.K->toN i k<=A.N/\st A (toN i k)=if i=A.N then -1 else A.to i k)
  (H:∀i j,i<=A.N->j<=A.N->t i j=false->ext A (st A i) []=ext A (st A j) []) (J:∀i j k,i<=A.N->j<=A.N->k<A.K->t i j=false->t (toN i k) (toN j k)=false):
  ∀(w:List Nat) (i j:Nat),Kd A w->i<=A.N->j<=A.N->t i j=false->ext A (st A i) w=ext A (st A j) w:=by
 intro w
 induction w with
 |nil=>intro i j _ a b h;exact H i j a b h
 |cons k w ih=>
  intro i j c a b h;let⟨k1,d⟩:=c.tail;have e:∀i,i<=A.N->ext A (st A i) (k::w)=ext A (st A (toN i k)) w:=λi a=>by
   rw[(z i k a k1).2];unfold st;by_cases h1:i=A.N
   .rw[dF h1,dF h1,ext_none _ _ Qo,ext_none _ _ Qo]
   rw[dG h1,dG h1];simp only[ext,ZE];rw[g_]
  rw[e i a,e j b];exact ih _ _ d (z i k a k1).1 (z j k b k1).1 (J i j k a b k1 h)
end Bm
namespace Bm
def fl(A:Aut)(t:Nat):Int:=A.to (t/A.K) (t%A.K)
def kn(A:Aut):Nat->Nat
 |0=>1
 |t+1=>if fl A t=(kn A t:Int) then kn A t+1 else kn A t
def kn_mono(A:Aut){s t:Nat}(h:s<=t):kn A s<=kn A t:=by
 induction t with
 |zero=>
   have:s=0:=Qo
   subst this;exact Zg _
 |succ t ih=>
  by_cases e:s=t+1
  .subst e;exact Zg _
  have:=ih Qo;rw[kn];split<;>omega
def fl_at(A:Aut){s k:Nat}(z:k<A.K):fl A (s*A.K+k)=A.to s k:=by
 unfold fl;have a:0<A.K:=Qo
 rw[ed,Nat.mul_add_div a,eX z,eP,Nat.mul_add_mod,Nat.mod_eq_of_lt z]
structure Bfs (A:Aut):Prop where
 pos:0<A.N
 le:∀t,t<A.N*A.K->fl A t<=kn A t
 row:∀s,s<A.N->s<kn A (s*A.K)
 all:kn A (A.N*A.K)=A.N
variable {A:Aut}
def Bfs.lt(h:Bfs A){t:Nat}(z:t<A.N*A.K):fl A t<kn A (t+1):=by
 have h1:=h.le t z;rw[kn];split<;>omega
def kn_le(h:Bfs A){t:Nat}(z:t<=A.N*A.K):kn A t<=A.N:=by
 have:=kn_mono A z;rw[h.all]at this;exact this
variable {k:Nat}
def time_lt{s:Nat}(hs:s<A.N)(z:k<A.K):s*A.K+k<A.N*A.K:=by
 have:(s+1)*A.K<=A.N*A.K:=ZQ _ hs;rw[dQ]at this;omega
def step_rep(J:Bfs A){r k m:Nat}(Y:r<A.N)(H:k<A.K)(z:A.to r k=(m:Int)):
  (least (alB A) m<kn A (r*A.K+k)/\reps (alB A) (kn A (r*A.K+k+1))=reps (alB A) (kn A (r*A.K+k))) \/
  (least (alB A) m=m/\m=kn A (r*A.K+k)/\reps (alB A) (kn A (r*A.K+k+1))=reps (alB A) (kn A (r*A.K+k))++[m]):=by
 have f:=time_lt Y H;have b:=fl_at A (s:=r) H;have c:=J.le _ f;have d:=least_le (alB A) m;rw[b,z]at c;by_cases e:m=kn A (r*A.K+k)
 .have a:kn A (r*A.K+k+1)=m+1:=by rw[kn,b,z,p_];omega
  rw[a,reps_succ,<-e];by_cases h:least (alB A) m=m
  .rw[dF h];exact Or.inr ⟨h,rfl,rfl⟩
  rw[dG h,dv];exact Or.inl ⟨Qo,rfl⟩
 have a:kn A (r*A.K+k+1)=kn A (r*A.K+k):=by rw[kn,b,z,g_]
 rw[a];exact Or.inl ⟨Qo,rfl⟩
def step_none{r:Nat}(z:k<A.K)(H:A.to r k<0):kn A (r*A.K+k+1)=kn A (r*A.K+k):=by
 rw[kn,fl_at A z,g_]
def row_other(z:A.Good)(J:Bfs A){q:Nat}(H:q<A.N)(Y:least (alB A) q≠q):∀k,k<=A.K->reps (alB A) (kn A (q*A.K+k))=reps (alB A) (kn A (q*A.K)):=by
 intro k
 induction k with
 |zero=>intro _;rfl
 |succ k ih=>
  intro v;have a:k<A.K:=Qo
  have e:=alB_eqv A A.N;rw[<-ih Qo,<-ZN];have j:=z.rng q k H a;rcases Int.lt_or_le (A.to q k) 0 with h0|h0
  .rw[step_none a h0]
  let⟨m,f⟩:=ZA h0;rcases step_rep J H a f with h|⟨h1,h2,_⟩
  .exact h.2
  exfalso;have o:=least_le (alB A) q;have l:Al A (least (alB A) q:Nat) q:=(alB_iff A _ _).1 (least_like e H);generalize least (alB A) q=g at *;have c:g<q:=Qo
  have b:=l.to a;rw[f]at b;have r:=z.rng g k Qo a;rcases Int.lt_or_le (A.to g k) 0 with h3|h3
  .have:A.to g k=-1:=Qo
   rw[this]at b;exact z.live m Qo b.symm
  let⟨p,i⟩:=ZA h3;rw[i]at b;have u:=J.lt (time_lt (show g<A.N by omega) a);rw[fl_at A a,i]at u;have d:=kn_mono A (s:=g*A.K+k+1) (t:=q*A.K+k) (by
   have:(g+1)*A.K<=q*A.K:=ZQ _ c;rw[dQ]at this;omega)
  have n:=least_of_like e Qo (show m<A.N by omega) ((alB_iff A p m).2 b);have:=least_le (alB A) p;omega
def rows_other(z:A.Good)(H:Bfs A){a:Nat}:∀d,a+d<=A.N->(∀q,a<=q->q<a+d->least (alB A) q≠q)->reps (alB A) (kn A ((a+d)*A.K))=reps (alB A) (kn A (a*A.K))
 |0,_,_=>rfl
 |d+1,h,hn=>by
  rw[<-rows_other z H d Qo (λq h1 h2=>hn q h1 Qo),<-row_other z H (show a+d<A.N by omega) (hn (a+d) Qo Qo) A.K (Zg _),<-ZN,dQ,Nat.one_mul]
def next_rep(J:A.Good)(H:Bfs A){r i z:Nat}(Y:r<A.N)(h1:(reps (alB A) (kn A ((r+1)*A.K)))[i]?=some r)(h2:(reps (alB A) (kn A ((r+1)*A.K)))[i+1]?=some z):
  r<z/\z<A.N/\least (alB A) z=z/\reps (alB A) (kn A ((r+1)*A.K))=reps (alB A) (kn A (z*A.K)):=by
 let⟨g,c,j⟩:=reps_mem h1;let⟨k,d,l⟩:=reps_mem h2;have e:=kn_le H (t:=(r+1)*A.K) (ZQ _ Y);have b:r<z:=by
  rcases ZD r z with h|h
  .exact h
  have:=cnt_mono (alB A) h;omega
 refine⟨b,Qo,d,?_⟩;have h3:=rows_other J H (a:=r+1) (z-(r+1)) Qo (λq h1 h2 f=>by
  have c1:=cnt_lt c (show r<q by omega);have c2:=cnt_lt f (show q<z by omega);omega)
 rw[show r+1+(z-(r+1))=z by omega]at h3;exact h3.symm
def last_rep(H:A.Good)(z:Bfs A){r i:Nat}(J:r<A.N)(h1:(reps (alB A) (kn A ((r+1)*A.K)))[i]?=some r)(h2:(reps (alB A) (kn A ((r+1)*A.K))).length=i+1):
  reps (alB A) (kn A ((r+1)*A.K))=reps (alB A) A.N:=by
 let⟨m,h,n⟩:=reps_mem h1;have c:∀d,r+1+d<=A.N->∀q,r+1<=q->q<r+1+d->least (alB A) q≠q:=by
  intro d
  induction d with
  |zero=>intro _ q h3 j;omega
  |succ d ih=>
   intro s q h3 j g;have b:=ih Qo;by_cases e:q=r+1+d
   .subst e;have k:=rows_other H z (a:=r+1) d Qo b;have l:=z.row (r+1+d) Qo;have f:=reps_get (alB A) _ _ l g;rw[k]at f;have o:=(Zi.1 f).1;have p:=cnt_lt h (show r<r+1+d by omega);omega
   exact b q h3 Qo g
 have h3:=rows_other H z (a:=r+1) (A.N-(r+1)) Qo (c _ Qo);rw[show r+1+(A.N-(r+1))=A.N by omega,z.all]at h3;exact h3.symm
end Bm
open Go.RowKit
namespace Rx
def nul_or_fst:∀(e:Rx) (o:Nat),e.nul=true\/∃p,e.fst o p=true
 |eps,_=>Or.inl rfl
 |lit _,o=>Or.inr ⟨o,by simp[fst]⟩
 |cat a b,o=>by
  rcases nul_or_fst a o with h|⟨p,h⟩
  .rcases nul_or_fst b (o+a.sz)with k|⟨p,k⟩
   .exact Or.inl (by simp[nul,h,k])
   exact Or.inr ⟨p,by simp[fst,h,k]⟩
  exact Or.inr ⟨p,by simp[fst,h]⟩
 |alt a b,o=>by
  rcases nul_or_fst a o with h|⟨p,h⟩
  .exact Or.inl (by simp[nul,h])
  exact Or.inr ⟨p,by simp[fst,h]⟩
 |star _,_=>Or.inl rfl
 |plus a,o=>nul_or_fst a o
 |opt _,_=>Or.inl rfl
inductive Rch (e:Rx) (o:Nat):Nat->Prop
 |last {p:Nat} (h:e.lst o p=true):Rch e o p
 |next {p q:Nat} (h:e.fol o p q=true) (k:Rch e o q):Rch e o p
def rch_any:∀(e:Rx) (o p:Nat),o<=p->p<o+e.sz->Rch e o p
 |eps,o,p,h1,h2=>by simp[sz]at h2;omega
 |lit _,o,p,h1,h2=>.last (by simp[sz]at h2;simp[lst];omega)
 |cat a b,o,p,h1,h2=>by
  have c:∀q,Rch b (o+a.sz) q->Rch (cat a b) o q:=λq h=>by
   induction h with
   |last h=>exact .last (by simp[lst,h])
   |next h k ih=>exact .next (by simp[fol,h]) ih
  have ha:∀q,Rch a o q->Rch (cat a b) o q:=λq h=>by
   induction h with
   |last h=>
    rcases nul_or_fst b (o+a.sz)with k|⟨x,k⟩
    .exact .last (by simp[lst,h,k])
    have d:=fst_rng b _ x k;exact .next (q:=x) (by simp[fol,h,k]) (c x (rch_any b _ x d.1 d.2))
   |next h k ih=>exact .next (by simp[fol,h]) ih
  simp only[sz]at h2;rcases ZD p (o+a.sz)with h|h
  .exact ha p (rch_any a o p h1 h)
  exact c p (rch_any b _ p h Qo)
 |alt a b,o,p,h1,h2=>by
  have c:∀q,Rch b (o+a.sz) q->Rch (alt a b) o q:=λq h=>by
   induction h with
   |last h=>exact .last (by simp[lst,h])
   |next h k ih=>exact .next (by simp[fol,h]) ih
  have ha:∀q,Rch a o q->Rch (alt a b) o q:=λq h=>by
   induction h with
   |last h=>exact .last (by simp[lst,h])
   |next h k ih=>exact .next (by simp[fol,h]) ih
  simp only[sz]at h2;rcases ZD p (o+a.sz)with h|h
  .exact ha p (rch_any a o p h1 h)
  exact c p (rch_any b _ p h Qo)
 |star a,o,p,h1,h2=>by
  have ha:∀q,Rch a o q->Rch (star a) o q:=λq h=>by
   induction h with
   |last h=>exact .last h
   |next h k ih=>exact .next (by simp[fol,h]) ih
  exact ha p (rch_any a o p h1 h2)
 |plus a,o,p,h1,h2=>by
  have ha:∀q,Rch a o q->Rch (plus a) o q:=λq h=>by
   induction h with
   |last h=>exact .last h
   |next h k ih=>exact .next (by simp[fol,h]) ih
  exact ha p (rch_any a o p h1 h2)
 |opt a,o,p,h1,h2=>by
  have ha:∀q,Rch a o q->Rch (opt a) o q:=λq h=>by
   induction h with
   |last h=>exact .last h
   |next h k ih=>exact .next h ih
  exact ha p (rch_any a o p h1 h2)
def Full:Rx->Prop
 |eps=>True
 |lit f=>∃b,b<256/\f b=true
 |cat a b=>a.Full/\b.Full
 |alt a b=>a.Full/\b.Full
 |star a=>a.Full
 |plus a=>a.Full
 |opt a=>a.Full
def full_has:∀(e:Rx) (o p:Nat),e.Full->o<=p->p<o+e.sz->∃b,b<256/\e.has o p b=true
 |eps,o,p,_,h1,h2=>by simp[sz]at h2;omega
 |lit f,o,p,hf,h1,h2=>by
  let⟨b,h3,d⟩:=hf;have:p=o:=by simp[sz]at h2;omega
  exact⟨b,h3,by simp[has,this,d]⟩
 |cat a b,o,p,hf,h1,h2=>by
  simp only[sz]at h2;rcases ZD p (o+a.sz)with h|h
  .let⟨c,h3,d⟩:=full_has a o p hf.1 h1 h;exact⟨c,h3,by simp[has,d]⟩
  let⟨c,h3,d⟩:=full_has b _ p hf.2 h Qo;exact⟨c,h3,by simp[has,d]⟩
 |alt a b,o,p,hf,h1,h2=>by
  simp only[sz]at h2;rcases ZD p (o+a.sz)with h|h
  .let⟨c,h3,d⟩:=full_has a o p hf.1 h1 h;exact⟨c,h3,by simp[has,d]⟩
  let⟨c,h3,d⟩:=full_has b _ p hf.2 h Qo;exact⟨c,h3,by simp[has,d]⟩
 |star a,o,p,hf,h1,h2=>full_has a o p hf h1 h2
 |plus a,o,p,hf,h1,h2=>full_has a o p hf h1 h2
 |opt a,o,p,hf,h1,h2=>full_has a o p hf h1 h2
variable {e:Rx}
def nz_full(h:e.Full):e.nz.Full:=by unfold nz;split<;>first|trivial|exact h
def row_full{l:List Rx}(h:∀x∈l,x.Full):(rowOf l).Full:=by
 have b:∀(l:List Rx) (a:Rx),a.Full->(∀x∈l,x.Full)->(l.foldl cat a).Full:=by
  intro l
  induction l with
  |nil=>intro a h _;exact h
  |cons x l ih=>intro a h k;exact ih _ ⟨h,k x Qs⟩ (λy c=>k y (by simp[c]))
 exact b l eps trivial h
variable {kd:Int}
def suf_full{le mo:Nat}(h:e.Full):(suf kd le mo e).Full:=by
 unfold suf
 repeat' split
 .exact h
 .exact h
 .exact h
 refine row_full (λx a=>?_);obtain⟨i,_,rfl⟩:=eV.1 a;split<;>exact h
end Rx
def zV:∀(f k:Nat) (ts:List Tq) (e:Rx),Pp f k ts e->(∀q∈ts,q.t.kd=1->∃b,b<256/\q.f b=true)->e.Full:=by
 intro f
 induction f with
 |zero=>intro k ts e h;exact absurd h (by simp[Pp])
 |succ f ih=>
  intro k ts e h d;rcases k with _|_|k
  .unfold Pp at h;rcases h with ⟨q,rfl,h2,h3,rfl⟩|⟨a,inn,b,e0,rfl,h2,h3,g,i,m,rfl⟩|⟨q,t,e0,rfl,h2,h3,g,rfl⟩
   .exact d q Qs h3
   .exact Rx.nz_full (ih 2 inn e0 m (λq c=>d q (by simp[c])))
   exact Rx.nz_full (Rx.suf_full (ih 0 q e0 h2 (λx c=>d x (by simp[c]))))
  .unfold Pp at h;obtain⟨L,rfl,h2,rfl⟩:=h;refine Rx.row_full (λx c=>?_);obtain⟨y,j,rfl⟩:=eV.1 c;refine ih 0 y.1 y.2 (h2 y j) (λq hz=>d q ?_);exact List.mem_flatten.2 ⟨y.1,eV.2 ⟨y,j,rfl⟩,hz⟩
  unfold Pp at h;rcases h with h|⟨r,b,q,l,e2,rfl,h2,h3,g,i,rfl⟩
  .exact ih 1 ts e h d
  exact⟨ih 1 r l g (λx c=>d x (by simp[c])),ih 2 q e2 i (λx c=>d x (by simp[c]))⟩
def yB{f:N_}:∀n,Rf.i4 f n≠0->∃b,b<n/\f b=true:=by
 intro n
 induction n with
 |zero=>intro h;exact absurd rfl h
 |succ n ih=>
  intro h;by_cases a:f n=true
  .exact⟨n,Qo,a⟩
  let⟨b,h1,h2⟩:=ih (λh0=>h (by simp[Rf.i4,a,h0]));exact⟨b,Qo,h2⟩
def LI:∀(ps:List Pg.Pt),(∀p∈ps,0<=p.pl)->Pg.matchless ps=-1->∀p∈ps,p.kd=1->Rf.i4 p.f 256≠0:=by
 intro ps
 induction ps with
 |nil=>intro _ _ p d;cases d
 |cons x ps ih=>
  intro a b p d h1 h0;rw[Pg.matchless]at b;by_cases c:x.kd=1/\Rf.i4 x.f 256=0
  .rw[dF c]at b;have:=a x Qs;omega
  rw[dG c]at b;rcases ZR.1 d with rfl|h
  .exact c ⟨h1,h0⟩
  exact ih (λq e=>a q (by simp[e])) b p h h1 h0
variable {s:ByteArray}{d:Int}{ck:List Int}{K b c k n:Nat}{E:Nat->N_}
def DF{ps:List Pg.Pt}{z:List Tq}(h3:XK (Mo s) ps z):(∀p∈ps,p.kd=1->Rf.i4 p.f 256≠0)->∀q∈z,q.t.kd=1->∃b,b<256/\q.f b=true:=by
 induction h3 with
 |nil=>intro _ q e;cases e
 |@cons a b l m hx t ih=>
  intro d q e h1;rcases ZR.1 e with h|e
  .rw[h]at h1 ⊢;let⟨c,g,i⟩:=yB 256 (d a Qs (by rw[hx.1];exact h1));exact⟨c,g,by rw[<-hx.2.2.1];exact i⟩
  exact ih (λp j=>d p (by simp[j])) q e h1
def KC(s:ByteArray)(h:(Pg.gP (Y7 s) s.size).1=0):(TZ s).Full:=by
 have a:=((XQ s).2 h);let⟨_,i,a⟩:=a;let⟨m,f,_,_,h3,g⟩:=Ua s a;have c:Pg.matchless (Pg.ie (Y7 s) s.size).ps=-1:=by
  unfold Pg.gP at h;rw[g_]at h;simp only[a,dB]at h;by_cases h1:Pg.tooDeep (Pg.ie (Y7 s) s.size).ps 0=-1
  .rw[dF h1]at h;by_cases h2:Pg.falling (Pg.ie (Y7 s) s.size).ps=-1
   .rw[dF h2]at h;by_cases h3:Pg.matchless (Pg.ie (Y7 s) s.size).ps=-1
    .exact h3
    rw[dG h3]at h;cases h
   rw[dG h2]at h;cases h
  rw[dG h1]at h;cases h
 have d:∀p∈(Pg.ie (Y7 s) s.size).ps,0<=p.pl:=by
  have e:=O0 s ((s.size:Int).toNat+1) 0 0 0 0 [] Qo Qo Qo;have k:Pg.ij (Y7 s) s.size ((s.size:Int).toNat+1) 0 0 ((0:Nat):Int) []=Pg.ie (Y7 s) s.size:=rfl;rw[k]at e;rcases e with ⟨h1,_⟩|⟨ps,_,h2,_,_,_,_,j⟩
  .rw[h1]at a;cases a
  rw[h2,dz];exact λp l=>(j p l).1
 have b:=LI _ d c;exact zV f 2 m _ g (DF h3 b)
end
section
namespace Pk
def ld(nx:Nat->Int)(n:Nat)(s:Int)(c:Nat):Int:=if s=-1 then -1 else nx (s.toNat*n+c)
def ld_none(nx:Nat->Int)(n c:Nat):ld nx n (-1) c=-1:=dF rfl
def ld_nat(nx:Nat->Int)(n s c:Nat):ld nx n (s:Int) c=nx (s*n+c):=by
 rw[ld,g_,ZE]
def dif(nx:Nat->Int)(n:Nat)(s d:Int):Nat->List Nat
 |0=>[]
 |k+1=>if ld nx n s k=ld nx n d k then dif nx n s d k else dif nx n s d k++[k]
variable {d:Int}{c n:Nat}
def dif_mem{nx:Nat->Int}{s:Int}:∀ {k:Nat},c∈dif nx n s d k<->c<k/\ld nx n s c≠ld nx n d c
 |0=>by simp[dif]
 |k+1=>by
  rw[dif];split
  .rename_i h;rw[dif_mem];constructor
   .rintro ⟨h1,h2⟩;exact⟨Qo,h2⟩
   rintro ⟨h1,h2⟩;refine⟨?_,h2⟩;by_cases e:c=k
   .subst e;exact absurd h h2
   omega
  rename_i h;rw[ZU,dif_mem,ZC];constructor
  .rintro (⟨h1,h2⟩|rfl)
   .exact⟨Qo,h2⟩
   exact⟨Qo,h⟩
  rintro ⟨h1,h2⟩;by_cases e:c=k
  .exact Or.inr e
  exact Or.inl ⟨Qo,h2⟩
def dif_len(nx:Nat->Int)(n:Nat)(s d:Int):∀k:Nat,(dif nx n s d k).length<=k
 |0=>by simp[dif]
 |k+1=>by
  rw[dif];have:=dif_len nx n s d k;split
  .omega
  simp;omega
variable {k:Nat}
def dif_eq{nx:Nat->Int}{s:Int}(h:ld nx n s k=ld nx n d k):dif nx n s d (k+1)=dif nx n s d k:=by rw[dif,dF h]
def dif_ne{nx:Nat->Int}{s:Int}(h:¬ld nx n s k=ld nx n d k):dif nx n s d (k+1)=dif nx n s d k++[k]:=by rw[dif,dG h]
def near(nx:Nat->Int)(n s:Nat):Nat->Int × List Nat
 |0=>(-1,dif nx n s (-1) n)
 |d+1=>if (dif nx n s d n).length<(near nx n s d).2.length then ((d:Int),dif nx n s d n) else near nx n s d
def near_lt{nx:Nat->Int}{s d:Nat}(h:(dif nx n s d n).length<(near nx n s d).2.length):near nx n s (d+1)=((d:Int),dif nx n s d n):=by rw[near,dF h]
def near_ge{nx:Nat->Int}{s d:Nat}(h:¬(dif nx n s d n).length<(near nx n s d).2.length):near nx n s (d+1)=near nx n s d:=by rw[near,dG h]
def near_own(nx:Nat->Int)(n s:Nat):∀d,(near nx n s d).2=dif nx n s (near nx n s d).1 n
 |0=>rfl
 |d+1=>by
  by_cases h:(dif nx n s d n).length<(near nx n s d).2.length
  .rw[near_lt h]
  rw[near_ge h];exact near_own nx n s d
def near_def(nx:Nat->Int)(n s:Nat):∀d,-1<=(near nx n s d).1/\(near nx n s d).1<d
 |0=>by simp[near]
 |d+1=>by
  have:=near_def nx n s d;by_cases h:(dif nx n s d n).length<(near nx n s d).2.length
  .rw[near_lt h];simp only;omega
  rw[near_ge h];omega
def df(nx:Nat->Int)(n s:Nat):Int:=(near nx n s s).1
def own(nx:Nat->Int)(n s:Nat):List Nat:=(near nx n s s).2
def df_bd(nx:Nat->Int)(n s:Nat):-1<=df nx n s/\df nx n s<s:=near_def nx n s s
def own_lt{nx:Nat->Int}{s:Nat}(h:c∈own nx n s):c<n:=by
 unfold own at h;rw[near_own]at h;exact(dif_mem.1 h).1
def own_not{nx:Nat->Int}{s:Nat}(z:c<n)(h:c ∉ own nx n s):ld nx n s c=ld nx n (df nx n s) c:=by
 unfold own at h;rw[near_own,dif_mem]at h;by_cases e:ld nx n s c=ld nx n (df nx n s) c
 .exact e
 exact absurd ⟨z,e⟩ h
def fr(ck:List Int)(b:Nat)(l:List Nat):Bool:=l.all λc=>ck.getD (b+c) (-1)==-1
variable {ck:List Int}{b:Nat}
def fr_iff{l:List Nat}:fr ck b l=true<->∀c∈l,ck.getD (b+c) (-1)=-1:=by
 unfold fr;rw[List.all_eq_true];simp
def fr_len(ck:List Int)(l:List Nat):fr ck ck.length l=true:=by
 rw[fr_iff];intro c _;rw[Zf,ZB Qo];rfl
def lf(p:Nat->Bool):Nat->Nat->Nat
 |0,b=>b
 |u+1,b=>if p b then b else lf p u (b+1)
def lf_spec(p:N_):∀(u b:Nat),p (b+u)=true->p (lf p u b)=true/\lf p u b<=b+u/\∀i,b<=i->i<lf p u b->p i=false
 |0,b,h=>⟨by simpa[lf]using h,by simp[lf],λi h1 h2=>by simp only[lf]at h2;omega⟩
 |u+1,b,h=>by
  rw[lf];by_cases e:p b=true
  .rw[dF e];exact⟨e,Qo,λi h1 h2=>Qo⟩
  rw[dG e];let⟨h1,h2,h3⟩:=lf_spec p u (b+1) (by rw[show b+1+u=b+(u+1) by omega];exact h);refine⟨h1,Qo,λi c a=>?_⟩;by_cases e2:i=b
  .subst e2;simpa using e
  exact h3 i Qo a
def bas(ck:List Int)(l:List Nat):Nat:=lf (λb=>fr ck b l) ck.length 0
def bas_spec(ck:List Int)(l:List Nat):fr ck (bas ck l) l=true/\bas ck l<=ck.length/\∀i,i<bas ck l->fr ck i l=false:=by
 let⟨h1,h2,h3⟩:=lf_spec (λb=>fr ck b l) ck.length 0 (by rw[Zn];exact fr_len ck l);exact⟨h1,by rw[Zn]at h2;exact h2,λi a=>h3 i Qo a⟩
def bas_eq{l:List Nat}(h:fr ck b l=true)(z:∀i,i<b->fr ck i l=false):bas ck l=b:=by
 let⟨h1,_,h3⟩:=bas_spec ck l;rcases dJ (bas ck l) b with a|a|a
 .rw[z _ a]at h1;cases h1
 .exact a
 rw[h3 _ a]at h;cases h
def put(l:List Int)(k:Nat)(v:Int):List Int:=(l++List.replicate (k+1-l.length) (-1)).set k v
def put_len(l:List Int)(k:Nat)(v:Int):(put l k v).length=max l.length (k+1):=by
 unfold put;simp;omega
def put_at(l:List Int)(k:Nat)(v:Int)(i:Nat):(put l k v).getD i (-1)=if i=k then v else l.getD i (-1):=by
 unfold put;rw[Zf,Zf,List.getElem?_set];by_cases e:k=i
 .subst e;rw[dF rfl,dF rfl,dF Qp];rfl
 rw[dG e,dG (λh=>e h.symm)];by_cases h:i<l.length
 .rw[Zv h]
 rw[ZG Qo,ZB (l:=l) Qo,List.getElem?_replicate];split<;>rfl
def lay(nx:Nat->Int)(n s b:Nat):List Nat->List Int × List Int->List Int × List Int
 |[],p=>p
 |c::r,p=>lay nx n s b r (put p.1 (b+c) s,put p.2 (b+c) (ld nx n s c))
def lay_append(nx:Nat->Int)(n s b:Nat):∀(l r:List Nat) (p:List Int × List Int),lay nx n s b (l++r) p=lay nx n s b r (lay nx n s b l p)
 |[],_,_=>rfl
 |c::l,r,p=>by rw[Zt,lay,lay_append nx n s b l,lay]
def lay_at(nx:Nat->Int)(n s b:Nat):∀(l:List Nat) (p:List Int × List Int) (i:Nat),
  ((∃c∈l,i=b+c/\(lay nx n s b l p).1.getD i (-1)=s/\(lay nx n s b l p).2.getD i (-1)=ld nx n s c)) \/
  ((∀c∈l,i≠b+c)/\(lay nx n s b l p).1.getD i (-1)=p.1.getD i (-1)/\(lay nx n s b l p).2.getD i (-1)=p.2.getD i (-1))
 |[],p,i=>Or.inr ⟨Qs,rfl,rfl⟩
 |c::r,p,i=>by
  rw[lay];rcases lay_at nx n s b r (put p.1 (b+c) s,put p.2 (b+c) (ld nx n s c)) i with ⟨a,h1,h2⟩|⟨h1,h2,h3⟩
  .exact Or.inl ⟨a,List.mem_cons_of_mem _ h1,h2⟩
  rw[h2,h3,put_at,put_at];by_cases e:i=b+c
  .left;exact⟨c,List.mem_cons_self,e,dF e,dF e⟩
  right;refine⟨λa d=>?_,dG e,dG e⟩;rcases ZR.1 d with rfl|h
  .exact e
  exact h1 a h
def lay_len(nx:Nat->Int)(n s b:Nat):∀(l:List Nat) (p:List Int × List Int),p.1.length=p.2.length->(∀c∈l,c<n) ->
  (lay nx n s b l p).1.length=(lay nx n s b l p).2.length/\p.1.length<=(lay nx n s b l p).1.length/\(lay nx n s b l p).1.length<=max p.1.length (b+n)
 |[],p,h,_=>⟨h,Zg _,by rw[lay];omega⟩
 |c::r,p,h,hl=>by
  rw[lay];have e:=hl c List.mem_cons_self;let⟨h1,h2,h3⟩:=lay_len nx n s b r (put p.1 (b+c) s,put p.2 (b+c) (ld nx n s c)) (by simp only[put_len,h]) (λa d=>hl a (List.mem_cons_of_mem _ d));simp only[put_len]at h2 h3;exact⟨h1,Qo,Qo⟩
def lay_last(nx:Nat->Int)(n s b:Nat):∀(l:List Nat) (p:List Int × List Int),(p.1.length=0\/p.1.getD (p.1.length-1) (-1)≠-1) ->
  ((lay nx n s b l p).1.length=0\/(lay nx n s b l p).1.getD ((lay nx n s b l p).1.length-1) (-1)≠-1)
 |[],p,h=>h
 |c::r,p,h=>by
  rw[lay];refine lay_last nx n s b r _ (Or.inr ?_);simp only[put_len,put_at];by_cases e:max p.1.length (b+c+1)-1=b+c
  .rw[dF e];omega
  rw[dG e];have:max p.1.length (b+c+1)=p.1.length:=Qo
  rw[this];rcases h with h|h
  .omega
  exact h
structure St where
 ck:List Int
 nt:List Int
 bs:List Int
 df:List Int
def step(nx:Nat->Int)(n:Nat)(S:St)(s:Nat):St:=
 ⟨(lay nx n s (bas S.ck (own nx n s)) (own nx n s) (S.ck,S.nt)).1,(lay nx n s (bas S.ck (own nx n s)) (own nx n s) (S.ck,S.nt)).2,S.bs++[(bas S.ck (own nx n s):Int)],S.df++[df nx n s]⟩
def run(nx:Nat->Int)(n:Nat):Nat->St
 |0=>⟨[],[],[],[]⟩
 |k+1=>step nx n (run nx n k) k
structure Inv (nx:Nat->Int) (n k:Nat) (S:St):Prop where
 l1:S.ck.length=S.nt.length
 l2:S.ck.length<=k*n
 l3:S.bs.length=k
 l4:S.df.length=k
 b3:∀i,i<k->0<=S.bs.getD i 0/\S.bs.getD i 0<=S.ck.length
 b4:∀i,i<k->S.df.getD i 0=df nx n i
 cs:∀j,j<S.ck.length->(S.ck.getD j (-1)=-1/\S.nt.getD j (-1)=-1)\/∃i c:Nat,i<k/\c<n/\S.ck.getD j (-1)=i/\(j:Int)=S.bs.getD i 0+c/\S.nt.getD j (-1)=ld nx n i c
 on:∀i c,i<k->c∈own nx n i->S.ck.getD (S.bs.getD i 0+c).toNat (-1)=i
 la:S.ck.length=0\/S.ck.getD (S.ck.length-1) (-1)≠-1
def getD_left(l r:List Int)(i:Nat)(d:Int)(h:i<l.length):(l++r).getD i d=l.getD i d:=by
 rw[Zf,Zf,Zv h]
def getD_last(l:List Int)(x d:Int):(l++[x]).getD l.length d=x:=Qs
def getD_out(l:List Int)(i:Nat)(d:Int)(h:l.length<=i):l.getD i d=d:=by
 rw[Zf,ZB h];rfl
def inv(nx:Nat->Int)(n:Nat):∀k,Inv nx n k (run nx n k)
 |0=>⟨rfl,by simp[run],rfl,rfl,λi h=>Qo,λi h=>Qo,λj h=>by simp[run]at h,λi c h=>Qo,Or.inl rfl⟩
 |k+1=>by
  have I:=inv nx n k;rw[run];generalize run nx n k=S at I;let⟨r,u,v⟩:=bas_spec S.ck (own nx n k);unfold step;generalize B:bas S.ck (own nx n k)=b at r u v;have s:=lay_len nx n k b (own nx n k) (S.ck,S.nt) I.l1 (λc g=>own_lt g);have ha:=lay_at nx n k b (own nx n k) (S.ck,S.nt);have hz:=lay_last nx n k b (own nx n k) (S.ck,S.nt) I.la;generalize lay nx n k b (own nx n k) (S.ck,S.nt)=p at s ha hz;let⟨g1,g2,w⟩:=s;simp only at g1 g2 w ha hz;have C:=I.l2;have d:∀i,i<k->(S.bs++[(b:Int)]).getD i 0=S.bs.getD i 0:=λi l=>getD_left _ _ _ _ (by rw[I.l3];exact l)
  have a:(S.bs++[(b:Int)]).getD k 0=b:=by have:=getD_last S.bs (b:Int) 0;rwa [I.l3]at this
  refine⟨g1,?_,by simp[I.l3],by simp[I.l4],λi l=>?_,λi l=>?_,λj A=>?_,λi c l g=>?_,hz⟩
  .simp only;rw[du];omega
  .simp only;by_cases e:i=k
   .subst e;rw[a];omega
   rw[d i Qo];have:=I.b3 i Qo;omega
  .simp only;by_cases e:i=k
   .subst e;have:=getD_last S.df (df nx n i) 0;rwa [I.l4]at this
   rw[getD_left _ _ _ _ (by rw[I.l4];omega)];exact I.b4 i Qo
  .simp only at A ⊢;rcases ha j with ⟨c,h1,h2,h3,f⟩|⟨h1,h2,h3⟩
   .right;refine⟨k,c,Qo,own_lt h1,h3,?_,f⟩;rw[a];omega
   by_cases o:j<S.ck.length
   .rcases I.cs j o with ⟨f,m⟩|⟨i,c,f,m,x,y,z⟩
    .left;exact⟨by rw[h2];exact f,by rw[h3];exact m⟩
    right;refine⟨i,c,Qo,m,by rw[h2];exact x,by rw[d i f];exact y,by rw[h3];exact z⟩
   left;have:=I.l1;exact⟨by rw[h2,getD_out _ _ _ Qo],by rw[h3,getD_out _ _ _ Qo]⟩
  simp only;by_cases e:i=k
  .subst e;rw[a];rw[show((b:Int)+(c:Int)).toNat=b+c by omega];rcases ha (b+c)with ⟨q,h1,h2,h3,f⟩|⟨h1,_⟩
   .exact h3
   exact absurd rfl (h1 c g)
  rw[d i Qo];have t:=I.on i c Qo g;rcases ha (S.bs.getD i 0+c).toNat with ⟨q,h1,h2,h3,f⟩|⟨h1,h2,_⟩
  .have:=fr_iff.1 r q h1;rw[<-h2,t]at this;omega
  rw[h2];exact t
def leads{nx:Nat->Int}{S:St}(I:Inv nx n k S)(i c:Nat)(hi:i<k)(hc:c<n):
  if S.bs.getD i 0+c<S.ck.length/\S.ck.getD (S.bs.getD i 0+c).toNat (-1)=i then S.nt.getD (S.bs.getD i 0+c).toNat (-1)=ld nx n i c else ld nx n i c=ld nx n (S.df.getD i 0) c:=by
 have d:=I.b3 i hi;split
 .rename_i h;rcases I.cs (S.bs.getD i 0+c).toNat (by omega)with ⟨h1,_⟩|⟨i',c',h1,h2,h3,h4,h5⟩
  .have:=h.2;omega
  have e:i'=i:=by have:=h.2;omega
  subst e;have e2:c'=c:=by omega
  subst e2;exact h5
 rename_i h;rw[I.b4 i hi];refine own_not hc (λa=>h ⟨?_,I.on i c hi a⟩);have b:=I.on i c hi a;by_cases f:(S.bs.getD i 0+c).toNat<S.ck.length
 .omega
 rw[getD_out _ _ _ (by omega)]at b;omega
end Pk
open Bm
structure Ow (E F G:Nat->Nat->Bool) (K:Nat):Prop where
 e:Eqv E 256
 k:K=cnt E 256
 f:Eqv F K
 g:Eqv G 256
 x:∀a b,a<256->b<256->G a b=F (idx E a) (idx E b)
def MM{α β:Type}{l:List α}{f g:α->List β}(h:∀a∈l,f a=g a):l.flatMap f=l.flatMap g:=by
 induction l with
 |nil=>rfl
 |cons a l ih=>rw[eY,eY,h a (by simp),ih (λb c=>h b (by simp[c]))]
variable {K:Nat}{E:Nat->N_}
def Ow.kk{F G:Nat->Nat->Bool}(h:Ow E F G K){b:Nat}(hb:b<256):idx E b<K:=by
 rw[h.k];exact idx_lt h.e hb
def Ow.rep{F G:Nat->Nat->Bool}(h:Ow E F G K){k:Nat}(hk:k<K):∃r,(reps E 256)[k]?=some r/\r<256/\least E r=r/\cnt E r=k/\idx E r=k:=by
 rw[h.k]at hk;refine⟨_,Zd hk,?_⟩;obtain⟨h1,h2,h3⟩:=reps_mem (Zd hk);exact⟨h1,h2,h3,by rw[idx_rep h2];exact h3⟩
def Ow.lst{F G:Nat->Nat->Bool}(h:Ow E F G K){b:Nat}(hb:b<256):(reps E 256)[least F (idx E b)]?=some (least G b)/\least E (least G b)=least G b/\cnt E (least G b)=least F (idx E b):=by
 have j:=h.kk hb;have n:=least_le F (idx E b);obtain⟨r,h1,h2,h3,d,i⟩:=h.rep (k:=least F (idx E b)) (by omega);have l:least G b=r:=by
  refine least_eq ?_ (λc m=>?_) (least_like h.g hb)
  .rw[h.x r b h2 hb,i];exact least_like h.f j
  rw[h.x c b (by omega) hb];refine least_min ?_;rw[<-d];have a:c<256:=by omega
  exact cnt_lt (least_idem h.e a) (by have:=least_le E c;omega)
 rw[l];exact⟨h1,h3,d⟩
def Ow.reps_to{F G:Nat->Nat->Bool}(h:Ow E F G K):∀n,n<=256->reps G n=(reps F (cnt E n)).map λk=>(reps E 256).getD k 0
 |0,_=>rfl
 |n+1,hn=>by
  have ih:=h.reps_to n (by omega);obtain⟨h1,h2,h3⟩:=h.lst (b:=n) (by omega);rw[reps_succ,ih];by_cases a:least E n=n
  .have c:=idx_rep a;rw[cnt_succ,dF a,reps_succ F,eK];congr 1;have f:(reps E 256).getD (cnt E n) 0=n:=by rw[Zf,reps_get E 256 n (by omega) a];rfl
   by_cases d:least G n=n
   .rw[d]at h3;rw[dF d,dF (by rw[c]at h3;exact h3.symm)];show [n]=[(reps E 256).getD (cnt E n) 0];rw[f]
   rw[dG d,dG (λe=>d ?_)]
   .rfl
   rw[c,e]at h3;exact cnt_inj h2 a h3
  rw[cnt_succ,dG a,eP,dG (λe=>a (by rw[e]at h2;exact h2)),dv]
def Ow.ix{F G:Nat->Nat->Bool}(h:Ow E F G K){b:Nat}(hb:b<256):idx G b=idx F (idx E b):=by
 obtain⟨h1,h2,h3⟩:=h.lst hb;have d:=least_le G b;unfold idx;unfold idx at h3;rw[<-h3];have c:=h.reps_to (least G b) (by omega);have a:=congrArg List.length c;rw[Zy]at a;exact a
end
