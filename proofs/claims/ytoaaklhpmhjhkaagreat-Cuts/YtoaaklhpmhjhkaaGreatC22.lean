import Derived.Test.YtoaaklhpmhjhkaaGreatC19
import Derived.Test.YtoaaklhpmhjhkaaGreatC21
set_option maxRecDepth 100000
set_option maxHeartbeats 4000000
set_option linter.all false
namespace Go.Proofs.YtoaaklhpmhjhkaaGreat
open Go.Proofs.Tryz
section
open Go.RowKit
open Bm
def Ju(f:N_):∀u r,(UY f u r=-1/\∀x,r<=x->x<r+u->f x=false)\/∃x,r<=x/\x<r+u/\f x=true/\UY f u r=(x:Int)/\∀y,r<=y->y<x->f y=false
 |0,r=>Or.inl ⟨rfl,λx h1 h2=>Qo⟩
 |u+1,r=>by
  rw[UY];cases h:f r
  .simp only[eN,eU];rcases Ju f u (r+1)with ⟨h1,h2⟩|⟨x,h1,h2,h3,h4,h5⟩
   .refine Or.inl ⟨h1,λx a b=>?_⟩;by_cases e:x=r
    .subst e;exact h
    exact h2 x Qo Qo
   refine Or.inr ⟨x,Qo,Qo,h3,h4,λy a b=>?_⟩;by_cases e:y=r
   .subst e;exact h
   exact h5 y Qo b
  simp only[dB];exact Or.inr ⟨r,Zg _,Qo,h,rfl,λy a b=>Qo⟩
def pre(x:ByteArray)(i k:Nat):List Nat:=((x.data.toList.drop i).take k).map (·.toNat)
def CF(x:ByteArray)(i k:Nat):∀b∈pre x i k,b<256:=λb a=>by
 obtain⟨c,_,rfl⟩:=eV.1 a;exact c.toNat_lt
def I7(x:ByteArray){i j k:Nat}(z:i+j<x.size)(H:j<k):∃v:List Nat,(∀b∈v,b<256)/\pre x i k=pre x i j++(x.data.toList.getD (i+j) 0).toNat::v/\(k=j+1->v=[]):=by
 have a:i+j<x.data.toList.length:=by simpa using z
 have h1:x.data.toList.drop i=(x.data.toList.drop i).take j++(x.data.toList.getD (i+j) 0)::x.data.toList.drop (i+j+1):=by
  conv=>lhs;rw[<-eD j (x.data.toList.drop i)]
  rw[eC,dS a,Zf,Zd a];rfl
 have d:((x.data.toList.drop i).take j).length=j:=by rw[eE,dY];omega
 refine⟨((x.data.toList.drop (i+j+1)).take (k-(j+1))).map (·.toNat),λb f=>?_,?_,λe=>?_⟩
 .obtain⟨c,_,rfl⟩:=eV.1 f;exact c.toNat_lt
 .unfold pre
  conv=>lhs;rw[h1]
  rw[List.take_append,d,fR Qo,eK,show k-j=(k-(j+1))+1 by omega,ZK,dt]
 subst e;simp
def xO(V:List Nat->Int)(x:ByteArray)(i m:Nat)(r l:Int):Prop:=
 (r=-1/\l=1/\∀k,1<=k->k<=m->V (pre x i k)=-1)\/∃n:Nat,l=n/\1<=n/\n<=m/\r=V (pre x i n)/\r≠-1/\∀k,n<k->k<=m->V (pre x i k)=-1
variable {a:Act}{ops:Array Oper}{Q:Exit->Act->World->Prop}{r rule:Int}{ks rs x y:List Nat}{rest:List Oper}{N N' P R base cap g gb i k m n q sb tb:Nat}{nl:N_}{ls:Nat->List Value}{Ns cp ix nd ti:Nat->Nat}{S S' X X':Nat->Prop}{vs:Nat->Value}{o:Oper}{row:Option Nat}{v v' vk vr vw:Value}{w w' w0 w1 w2 w5:World}
def xO.more{V:List Nat->Int}{x:ByteArray}{z:Nat}{l:Int}(h:xO V x i m r l)(J:m<=z)(H:∀k,m<k->k<=z->V (pre x i k)=-1):xO V x i z r l:=by
 rcases h with ⟨h1,h2,h3⟩|⟨n,h1,h2,h3,b,c,d⟩
 .refine Or.inl ⟨h1,h2,λk k1 a=>?_⟩;by_cases e:k<=m
  .exact h3 k k1 e
  exact H k Qo a
 refine Or.inr ⟨n,h1,h2,Qo,b,c,λk k1 a=>?_⟩;by_cases e:k<=m
 .exact d k k1 e
 exact H k Qo a
def Ev(M:Mc)(s:Int)(u:List Nat):Int:=ext (qM M) s (u.map λb=>(M.cl b).toNat)
variable {M:Mc}
def KM(S:WH M)(V:List Nat->Int)(x:ByteArray)(i:Nat):∀(u j:Nat) (s:Nat) (r l:Int),i+j<=x.size->x.size<=i+j+u->s<M.nlb->(∀v:List Nat,(∀b∈v,b<256)->Ev M s v=V (pre x i j++v))->xO V x i j r l ->
  xO V x i (x.size-i) (Mh (XM (WE M)) x i u (i+j) s r l).1 (Mh (XM (WE M)) x i u (i+j) s r l).2
 |0,j,s,r,l,h1,h2,_,_,m=>by
  have e:x.size-i=j:=Qo
  rw[e];exact m
 |u+1,j,s,r,l,h1,h2,hs,hv,m=>by
  by_cases d:i+j<x.size
  .let⟨b,g⟩:=nam ((x.data.toList.getD (i+j) 0).toNat);have a:b<256:=by rw[g];exact UInt8.toNat_lt _
   have h:fb x (i+j)=(b:Int):=by rw[g];rfl
   have z:=Ee S s b hs a;have E:=(yY S).1.ltK a;have F:s*M.k+(M.cl b).toNat<M.nnx:=by
    have:(s+1)*M.k<=M.nlb*M.k:=ZQ _ hs;rw[S.e,dQ]at *;omega
   have t:=S.b _ F;rw[<-z]at t;have y:∀v,Ev M s (b::v)=Ev M (QI (XM (WE M)) s b) v:=λv=>by
    unfold Ev;rw[dt,ext_cons,z];rfl
   by_cases w:QI (XM (WE M)) s (fb x (i+j))=-1
   .rw[Jq d w];refine m.more Qo (λk k1 D=>?_);let⟨v,v1,v2,_⟩:=I7 x d k1;rw[v2,<-g,<-hv (b::v) (λc n=>by
     rcases ZR.1 n with rfl|n
     .exact a
     exact v1 c n),y v,<-h,w]
    exact ext_none _ _ Qo
   let⟨A,f⟩:=ZA (show 0<=QI (XM (WE M)) s (fb x (i+j)) by rw[h]at w ⊢;omega);have p:A<M.nlb:=by rw[h]at f;omega
   have q:∀v:List Nat,(∀b∈v,b<256)->Ev M A v=V (pre x i (j+1)++v):=λv C=>by
    let⟨v0,_,v2,v3⟩:=I7 x d (show j<j+1 by omega);rw[v3 rfl]at v2;rw[v2,Zs,Zt,dz,<-g,<-hv (b::v) (λc n=>by
     rcases ZR.1 n with rfl|n
     .exact a
     exact C c n),y v,<-h,f]
   have o:II (XM (WE M)) (QI (XM (WE M)) s (fb x (i+j)))=V (pre x i (j+1)):=by
    have h0:=q [] (λb m=>by simp at m);rw[dv]at h0;rw[f,Ed S A p,<-h0];unfold Ev;rw[eJ,ext_nil];rfl
   by_cases B:II (XM (WE M)) (QI (XM (WE M)) s (fb x (i+j)))=-1
   .rw[Jp d w B,f,ZN];refine KM S V x i u (j+1) A r l Qo Qo p q (m.more Qo (λk k1 D=>?_));have:k=j+1:=Qo
    rw[this,<-o];exact B
   rw[Jr d w B,o,f,ZN];refine KM S V x i u (j+1) A _ _ Qo Qo p q (Or.inr ⟨j+1,Qo,Qo,Zg _,rfl,by rw[<-o];exact B,λk k1 D=>Qo⟩)
  rw[Fs Qo];have e:x.size-i=j:=Qo
  rw[e];exact m
def zd(L:Ln)(y:List Nat)(m:Nat):Prop:=(m=0\/L (y.take m))/\m<=y.length/\∀k,m<k->k<=y.length->¬L (y.take k)
def JB(Ls:Nat->Ln)(N:Nat)(y:List Nat)(rule:Int)(n:Nat):Prop:=
 (n=0/\rule=-1/\∀r,r<N->∀k,1<=k->k<=y.length->¬Ls r (y.take k)) \/
 ∃q,q<N/\rule=(q:Int)/\1<=n/\n<=y.length/\Ls q (y.take n)/\(∀r,r<N->∀k,n<k->k<=y.length->¬Ls r (y.take k))/\∀r,r<q->¬Ls r (y.take n)
def JB.zero(Ls:Nat->Ln)(y:List Nat):JB Ls 0 y (-1) 0:=Or.inl ⟨rfl,rfl,λr a=>Qo⟩
variable {Ls:Nat->Ln}
def JB.le(h:JB Ls N y rule n):n<=y.length:=by
 rcases h with ⟨h1,_⟩|⟨_,_,_,_,a,_⟩<;>omega
def JB.up(h:JB Ls N y rule n)(H:zd (Ls N) y m)(z:n<m):JB Ls (N+1) y (N:Int) m:=by
 let⟨g,m2,i⟩:=H;have a:∀r,r<N->∀k,m<=k->k<=y.length->¬Ls r (y.take k):=λr b k d c=>by
  rcases h with ⟨_,_,h3⟩|⟨_,_,_,_,_,_,f,_⟩
  .exact h3 r b k Qo c
  exact f r b k Qo c
 refine Or.inr ⟨N,Qo,rfl,Qo,m2,by
  rcases g with e|e
  .omega
  exact e,λr b k d c=>?_,λr b=>a r b m (Zg _) m2⟩
 by_cases e:r=N
 .subst e;exact i k d c
 exact a r Qo k Qo c
def JB.stay(h:JB Ls N y rule n)(H:zd (Ls N) y m)(z:¬n<m):JB Ls (N+1) y rule n:=by
 let⟨_,_,c⟩:=H;rcases h with ⟨h1,h2,h3⟩|⟨q,p,f,g,i,j,l,o⟩
 .refine Or.inl ⟨h1,h2,λr d k b a=>?_⟩;by_cases e:r=N
  .subst e;exact c k Qo a
  exact h3 r Qo k b a
 refine Or.inr ⟨q,Qo,f,g,i,j,λr d k b a=>?_,o⟩;by_cases e:r=N
 .subst e;exact c k Qo a
 exact l r Qo k b a
def CG{x:ByteArray}(h:i+k<=x.size):(pre x i (x.size-i)).take k=pre x i k:=by
 unfold pre;rw[<-List.map_take,List.take_take,Nat.min_eq_left Qo]
def Kk{x:ByteArray}:(pre x i (x.size-i)).length=x.size-i:=by
 unfold pre;simp
def Db(S:WH M){V:List Nat->Int}{Ls:Nat->Ln}{N:Nat}(Y:∀u:List Nat,(∀b∈u,b<256)->(V u=-1/\∀r,r<N->¬Ls r u)\/∃q,q<N/\V u=(q:Int)/\Ls q u/\∀r,r<q->¬Ls r u)
  (Z:∀u:List Nat,(∀b∈u,b<256)->Ev M 0 u=V u) (x:ByteArray) {i:Nat} (hi:i<=x.size) {rule:Int}{n:Nat} (h:JB Ls N (pre x i (x.size-i)) rule n):
  Ud (XM (WE M)) x i=(rule,if n=0 then 1 else (n:Int)):=by
 have g:=KM S V x i (x.size-i) 0 0 (-1) 1 Qo Qo (by have:=S.hd.2.1;omega) (λv H=>by
  have:=Z v H;simpa[pre]using this) (Or.inl ⟨rfl,rfl,λk k1 j=>Qo⟩)
 have e:Ud (XM (WE M)) x i=Mh (XM (WE M)) x i (x.size-i) (i+0) ((0:Nat):Int) (-1) 1:=rfl;rw[<-e]at g;generalize Ud (XM (WE M)) x i=p at *;let⟨r,l⟩:=p;simp only at g;unfold JB at h;rw[Kk]at h;have t:∀k,k<=x.size-i->(pre x i (x.size-i)).take k=pre x i k:=λk g=>CG Qo
 have C:=λk=>Y (pre x i k) (CF x i k)
 rcases h with ⟨h1,h2,h3⟩|⟨q,J,A,K,D,B,L,O⟩
 .subst h1;rcases g with ⟨k1,j,_⟩|⟨m,k1,j,d,w,z,_⟩
  .rw[k1,j,h2];rfl
  exfalso;rcases C m with ⟨a,_⟩|⟨q,s,_,f,_⟩
  .exact z (by rw[w];exact a)
  exact h3 q s m j d (by rw[t m d];exact f)
 rw[t n D]at B;have y:V (pre x i n)=rule:=by
  rcases C n with ⟨_,a⟩|⟨o,s,E,f,F⟩
  .exact absurd B (a q J)
  have:o=q:=by
   rcases dJ o q with c|c|c
   .exact absurd (by rw[t n D];exact f) (O o c)
   .exact c
   exact absurd B (F q c)
  rw[E,A,this]
 rw[g_];rcases g with ⟨_,_,d⟩|⟨m,k1,j,d,w,z,I⟩
 .have:=d n K Qo;rw[y,A]at this;omega
 have G:m=n:=by
  rcases dJ m n with c|c|c
  .have:=I n c Qo;rw[y,A]at this;omega
  .exact c
  exfalso;rcases C m with ⟨a,_⟩|⟨o,s,_,f,_⟩
  .exact z (by rw[w];exact a)
  exact L o s m c d (by rw[t m d];exact f)
 rw[w,k1,G,y]
variable {es:Nat->Rx}
def Dj(z:Y4 es n<=96)(J:n<=8)(u:List Nat)(H:∀b∈u,b<256):(Di es n u=-1/\∀r,r<n->¬(es r).Lq u)\/∃q,q<n/\Di es n u=(q:Int)/\(es q).Lq u/\∀r,r<q->¬(es r).Lq u:=by
 have c:∀r,(TY (XV es n) (U0 es n) (Y4 es n) (X6 es n) u (96+r)=true)<->r<n/\(es r).Lq u:=λr=>by
  rw[Cj es n z r u,Rx.lq_lg];exact⟨λ⟨a,b⟩=>⟨a,b,H⟩,λ⟨a,b,_⟩=>⟨a,b⟩⟩
 rcases Ju (λr=>TY (XV es n) (U0 es n) (Y4 es n) (X6 es n) u (96+r)) 8 0 with ⟨h1,h2⟩|⟨q,_,_,h3,g,h⟩
 .refine Or.inl ⟨h1,λr e d=>?_⟩;have h3:=h2 r Qo Qo;rw[(c r).2 ⟨e,d⟩]at h3;cases h3
 let⟨a,b⟩:=(c q).1 h3;refine Or.inr ⟨q,a,g,b,λr e d=>?_⟩;have f:=h r Qo e;rw[(c r).2 ⟨Qo,d⟩]at f;cases f
def EF{t:Tq}(H:UC t)(hs:X3 t.t):∃c r,t.t.w=c::r/\((c=42/\t.t.kd=5)\/(c=43/\t.t.kd=6)\/(c=63/\t.t.kd=7)\/(c=123/\t.t.kd=8)):=by
 unfold X3 at hs;rcases H.1 with h|h|h|h|h|h|h|h
 .exact absurd h.1 Qo
 .exact absurd h.1 Qo
 .exact absurd h.1 Qo
 .exact absurd h.1 Qo
 .exact⟨42,[],h.2,Or.inl ⟨rfl,h.1⟩⟩
 .exact⟨43,[],h.2,Or.inr (Or.inl ⟨rfl,h.1⟩)⟩
 .exact⟨63,[],h.2,Or.inr (Or.inr (Or.inl ⟨rfl,h.1⟩))⟩
 rcases h.2 with ⟨x,a,_⟩|⟨x,z,a,_⟩
 .exact⟨123,_,a,Or.inr (Or.inr (Or.inr ⟨rfl,h.1⟩))⟩
 exact⟨123,_,a,Or.inr (Or.inr (Or.inr ⟨rfl,h.1⟩))⟩
def FI{t:Tq}(H:UC t)(z:t.t.kd=8):3<=t.t.w.length/\Rf.most t.t.w=some t.t.mo/\xS t.t.w t.le/\0<=t.t.mo/\t.t.mo<=9/\0<=t.le/\t.le<=9:=by
 have e:=(M3 H.1 z).2;have h1:=M5 e;let⟨a,b,c⟩:=Rf.ji h1;have d:=H.2.2 z;let⟨x,r,_,f,g,h⟩:=H.2.2 z;exact⟨c,h1,d,a,b,Qo,Qo⟩
variable {e0:Rx}
def GA{f:Nat}{q:List Tq}{t:Tq}(hq:Pp f 0 q e0)(ht:UC t)(az:X3 t.t)(ay:Ml q e0)(h:Pp (f+1) 0 (q++[t]) (Rx.suf t.t.kd t.le.toNat t.t.mo.toNat e0).nz)(hz:(Rx.suf t.t.kd t.le.toNat t.t.mo.toNat e0).nz.sz≠0):Ml (q++[t]) (Rx.suf t.t.kd t.le.toNat t.t.mo.toNat e0).nz:=by
 have ak:(Rx.suf t.t.kd t.le.toNat t.t.mo.toNat e0).nz=Rx.suf t.t.kd t.le.toNat t.t.mo.toNat e0:=by
  rw[Rx.nz_sz]at hz;unfold Rx.nz;rw[dG hz]
 intro tb base s T N v vr S w r hs hp;let⟨G,hG⟩:=Kj h;rw[ak]at hG hz hp ⊢;have ab:tx (q++[t])=tx q++t.t.w:=by rw[UX,Sk,KP,dv]
 rw[ab]at r;have M:=CE hq ht az;rw[<-r]at M;let⟨a,l⟩:=nam ((tx q).length);rw[<-l]at M;let⟨c,us,V,ap⟩:=EF ht az;have hx:(s.extract 0 a).data.toList=tx q:=by rw[Bv,r,l,eR]
 have hu:(s.extract a s.size).data.toList=t.t.w:=by rw[Sx,r,l,eL]
 have al:s.size=a+t.t.w.length:=by
  have:s.data.toList.length=a+t.t.w.length:=by rw[r,Zl,l]
  simpa using this
 have ao:(s.extract 0 a).size=a:=by
  have:(s.extract 0 a).data.toList.length=a:=by rw[hx,l]
  simpa using this
 have p:Hid (∀w',Cp 164 #[.string s] w' λe w''=>e=.returned (.tuple #[.string (s.extract 0 a),.string (s.extract a s.size)])/\Bl w' w''):=λw'=>Ub s a w' hs M
 have aq:0<(s.extract a s.size).size:=by
  have:(s.extract a s.size).data.toList.length=us.length+1:=by rw[hu,V];rfl
  simp at this;simp;omega
 have i:(s.extract a s.size)[0]=c:=by
  have:=Qm (s.extract a s.size) 0 aq;rw[this,hu,V];rfl
 have ax:(s.extract a s.size).toList.isEmpty=false:=by rw[fS,hu,V];rfl
 have an:(s.extract a s.size).size<=40:=WD s _ _ hs;have B:(s.extract 0 a).size<=40:=WD s _ _ hs;rw[<-ab]at r;rw[<-r]at hG;have HS:=hyd ((N9 G).2 s _ w hs hG);have O:=hp.t.c.lt;have D:=hyd hp;generalize s.extract a s.size=ub at *;generalize s.extract 0 a=xb at *;let⟨z,ae⟩:=nam ((Rx.suf t.t.kd t.le.toNat t.t.mo.toNat e0).sz);rw[<-ae]at HS D hz ⊢;have aw:((z:Int)==0)=false:=Qp
 have C:=hyd ae;let⟨K,hK⟩:=nam (WB s.size z);have R:=hyd hK;rw[<-hK]at D ⊢;have x:=hyd3 hx ao al;have Hu:=hyd hu;have ac:1<=t.t.w.length:=by rw[V];simp
 have ag:=D.o.n;have am:=D.o.b;clear h hG r hp M hx hu al ao ab ak hK ae l;rcases ap with ⟨rfl,y⟩|⟨rfl,y⟩|⟨rfl,y⟩|⟨rfl,y⟩
 .have b1:((ub[0].toNat:Int)==42)=true:=by rw[i];rfl
  have b2:((ub[0].toNat:Int)==43)=false:=by rw[i];rfl
  have U:Rx.suf t.t.kd t.le.toNat t.t.mo.toNat e0=.star e0:=by unfold Rx.suf;rw[dF y]
  rw[U]at C ⊢;have o:WB xb.size e0.sz+1<=K:=by
   have:=Oj (L:=xb.size) (P:=e0.sz) ac;rw[R.o,C.o,x.o.2.2,<-x.o.2.1];show _<=WB _ e0.sz;omega
  have E:Hid (∀w',Bl w w'->Cp 147 #[pT tb,.string xb] w' (Yp tb base T N v vr S e0 (WB xb.size e0.sz) w')):=λw' j=>ay tb base xb T N v vr S w' x.o.1 B ((D.o.below j).less Qo)
  generalize WB xb.size e0.sz=Kx at *;clear i R C x Hu V ay hq ht az;go_enter func147,ntmps147;go_wp2_with fail;apply HS.o.mono;rintro ee w1 ⟨rfl,j⟩;go_wp2_with fail;apply(p _).mono;rintro ee w2 ⟨rfl,k⟩;have d:=j.trans (k.mono j.size);have m:=hyd (E w2 d);clear E HS p j k;go_wp2_with fail;apply m.o.mono;rintro ee w4 ⟨T4,n4,v4,S4,rfl,J,H,I,Y,u,av⟩;have HL:Hid (Cp 182 #[pT tb,I6 3,I6 n4] w4 (Yp tb base T N v vr S (.star e0) K w2)):=
   Jf tb base T N v vr S w2 T4 n4 v4 S4 w4 e0 K ((GS.first (D.o.below d)).made J H I Y u) Y am (D.o.below d).s Qo ag true
  clear J H I Y u m;go_wp2_with fail;apply HL.o.mono;rintro ee w5 ⟨X,n5,v5,W,rfl,g⟩;go_wp2;go_ret;exact Yp.from ⟨X,n5,v5,W,rfl,g⟩ d O
 .have b1:((ub[0].toNat:Int)==42)=false:=by rw[i];rfl
  have b2:((ub[0].toNat:Int)==43)=true:=by rw[i];rfl
  have U:Rx.suf t.t.kd t.le.toNat t.t.mo.toNat e0=.plus e0:=by unfold Rx.suf;rw[g_,dF y]
  rw[U]at C ⊢;have o:WB xb.size e0.sz+1<=K:=by
   have:=Oj (L:=xb.size) (P:=e0.sz) ac;rw[R.o,C.o,x.o.2.2,<-x.o.2.1];show _<=WB _ e0.sz;omega
  have E:Hid (∀w',Bl w w'->Cp 147 #[pT tb,.string xb] w' (Yp tb base T N v vr S e0 (WB xb.size e0.sz) w')):=λw' j=>ay tb base xb T N v vr S w' x.o.1 B ((D.o.below j).less Qo)
  generalize WB xb.size e0.sz=Kx at *;clear i R C x Hu V ay hq ht az;go_enter func147,ntmps147;go_wp2_with fail;apply HS.o.mono;rintro ee w1 ⟨rfl,j⟩;go_wp2_with fail;apply(p _).mono;rintro ee w2 ⟨rfl,k⟩;have d:=j.trans (k.mono j.size);have m:=hyd (E w2 d);clear E HS p j k;go_wp2_with fail;apply m.o.mono;rintro ee w4 ⟨T4,n4,v4,S4,rfl,J,H,I,Y,u,av⟩;have HL:Hid (Cp 182 #[pT tb,I6 4,I6 n4] w4 (Yp tb base T N v vr S (.plus e0) K w2)):=
   Jf tb base T N v vr S w2 T4 n4 v4 S4 w4 e0 K ((GS.first (D.o.below d)).made J H I Y u) Y am (D.o.below d).s Qo ag false
  clear J H I Y u m;go_wp2_with fail;apply HL.o.mono;rintro ee w5 ⟨X,n5,v5,W,rfl,g⟩;go_wp2;go_ret;exact Yp.from ⟨X,n5,v5,W,rfl,g⟩ d O
 .have b1:((ub[0].toNat:Int)==42)=false:=by rw[i];rfl
  have b2:((ub[0].toNat:Int)==43)=false:=by rw[i];rfl
  have b3:((ub[0].toNat:Int)==63)=true:=by rw[i];rfl
  have U:Rx.suf t.t.kd t.le.toNat t.t.mo.toNat e0=.opt e0:=by unfold Rx.suf;rw[g_,g_,dF y]
  rw[U]at C ⊢;have o:WB xb.size e0.sz+2<=K:=by
   have:=Oj (L:=xb.size) (P:=e0.sz) ac;rw[R.o,C.o,x.o.2.2,<-x.o.2.1];exact this
  have E:Hid (∀w',Bl w w'->Cp 183 #[pT tb,.string xb] w' (Yp tb base T N v vr S (.opt e0) K w')):=λw' j=>(IT ay tb base xb T N v vr S w' x.o.1 B ((D.o.below j).less o)).mono (λee w'' h=>h.eq (XU.refl _) o)
  clear i R C x Hu V ay hq ht az o;go_enter func147,ntmps147;go_wp2_with fail;apply HS.o.mono;rintro ee w1 ⟨rfl,j⟩;go_wp2_with fail;apply(p _).mono;rintro ee w2 ⟨rfl,k⟩;have d:=j.trans (k.mono j.size);have m:=hyd (E w2 d);clear E HS p j k;go_wp2_with fail;apply m.o.mono;rintro ee w5 ⟨X,n5,v5,W,rfl,g⟩;go_wp2;go_ret;exact Yp.from ⟨X,n5,v5,W,rfl,g⟩ d O
 have b1:((ub[0].toNat:Int)==42)=false:=by rw[i];rfl
 have b2:((ub[0].toNat:Int)==43)=false:=by rw[i];rfl
 have b3:((ub[0].toNat:Int)==63)=false:=by rw[i];rfl
 have U:Rx.suf t.t.kd t.le.toNat t.t.mo.toNat e0=Rx.rowOf (Rx.copies e0 t.le.toNat t.t.mo.toNat):=by unfold Rx.suf;rw[g_,g_,g_]
 rw[U]at C ⊢;let⟨l3,A,F,m0,m9,ar,au⟩:=FI ht y;obtain⟨mo,aa⟩:∃mo:Nat,t.t.mo=mo:=⟨t.t.mo.toNat,Qo⟩;obtain⟨le,Z⟩:∃le:Nat,t.le=le:=⟨t.le.toNat,Qo⟩;rw[aa]at A m9 m0;rw[Z]at F au ar;rw[aa,Z,ZE,ZE]at C ⊢;have o:mo*(WB xb.size e0.sz+2)+1<=K:=by
  have Q:=C.o;rw[Rx.copies_sz]at Q;have aj:1<=mo/\1<=e0.sz:=by
   rcases ey mo with h0|h0
   .rw[h0,fJ]at Q;omega
   rcases ey e0.sz with h1|h1
   .rw[h1,Nat.mul_zero]at Q;omega
   exact⟨h0,h1⟩
  have:=Eh (L:=xb.size) l3 aj.2 aj.1;rw[R.o,Q,x.o.2.2,<-x.o.2.1];exact this
 have E:Hid (∀w',Bl w w'->Cp 184 #[pT tb,.string xb,I6 le,I6 mo] w' (Yp tb base T N v vr S (Rx.rowOf (Rx.copies e0 le mo)) K w')):=λw' j=>(I8 ay le mo Qo Qo tb base xb T N v vr S w' x.o.1 B ((D.o.below j).less o)).mono (λee w'' h=>h.eq (XU.refl _) o)
 have af:Hid (∀w',Cp 165 #[.string ub] w' λe w''=>e=.returned (.tuple #[I6 le,I6 mo])/\Bl w' w''):=λw'=>Ii ub mo le w' an (by rw[Hu.o];exact A) (by rw[Hu.o];exact F)
 clear i R C x Hu V ay hq ht az o A F aa Z U;go_enter func147,ntmps147;go_wp2_with fail;apply HS.o.mono;rintro ee w1 ⟨rfl,j⟩;go_wp2_with fail;apply(p _).mono;rintro ee w2 ⟨rfl,k⟩;have d:=j.trans (k.mono j.size);clear HS p j k;go_wp2_with fail;apply(af _).mono;rintro ee w3 ⟨rfl,ah⟩;have ai:=d.trans (ah.mono d.size);have m:=hyd (E w3 ai);clear E af d ah;go_wp2_with fail;apply m.o.mono;rintro ee w5 ⟨X,n5,v5,W,rfl,g⟩;go_wp2;go_ret;exact Yp.from ⟨X,n5,v5,W,rfl,g⟩ ai O
variable {ts:List Tq}{e:Rx}
def CD(h:Pp g 1 ts e):∃(z:Nat) (L:List (List Tq × Rx)),z<g/\ts=((L.map (·.1)).flatten)/\(∀x∈L,Pp z 0 x.1 x.2)/\e=Rx.rowOf (L.map (·.2)):=by
 cases g with
 |zero=>exact absurd h (by simp[Pp])
 |succ g=>
  let⟨L,h1,h2,h3⟩:=h;exact⟨g,L,Qo,h1,h2,h3⟩
def Ap(h:Pp g 2 ts e):∃(z:Nat) (L:List (List Tq × Rx)) (rest:List UInt8),z<g/\tx ts=tx ((L.map (·.1)).flatten)++rest/\(∀x∈L,Pp z 0 x.1 x.2)/\((rest=[]/\e=Rx.rowOf (L.map (·.2)))\/∃q e2 g2,g2<g/\rest=124::tx q/\Pp g2 2 q e2/\e=.alt (Rx.rowOf (L.map (·.2))) e2):=by
 cases g with
 |zero=>exact absurd h (by simp[Pp])
 |succ g=>
  rcases h with h|⟨r,b,q,f,e2,rfl,h2,h3,c,d,rfl⟩
  .obtain⟨z,L,k1,rfl,a,rfl⟩:=CD h;exact⟨z,L,[],Qo,Qs,a,Or.inl ⟨rfl,rfl⟩⟩
  obtain⟨z,L,k1,rfl,a,rfl⟩:=CD c;exact⟨z,L,124::tx q,Qo,by rw[UX,Sk,xY h2 h3];rfl,a,Or.inr ⟨q,e2,g,Qo,rfl,d,rfl⟩⟩
def PL.keep(h:PL w0 v S vk ks w)(z:w.grownBy w5 row)(H:∀k,vk.ownBlock=some k->row≠some k):PL w0 v S vk ks w5:=⟨h.o.grown z H,h.s⟩
def PL.below(h:PL w0 v S vk ks w)(z:Bl w w5):PL w0 v S vk ks w5:=⟨h.o.below z,h.s⟩
def BD(l:List Rx)(e:Rx):(l.foldr .alt e).sz=(l.map Rx.sz).sum+e.sz:=by
 induction l with
 |nil=>simp
 |cons x l ih=>simp only[List.foldr_cons,Rx.sz,ih,dt,List.sum_cons];omega
def ym:Value->Nat
 |.string b=>b.size
 |_=>0
structure xy (tb base:Nat) (T:Nat->Nd) (N:Nat) (v vr:Value) (S:Nat->Prop) (w:World) (f P Kt L:Nat) (e:Rx) (p:ByteArray) (vw:Value) (rs:List Nat) (es:List Rx) (T':Nat->Nd) (N':Nat) (v':Value) (S':Nat->Prop) (w':World):Prop where
 gs:GS tb base T N v vr S w T' N' v' S' w'
 pl:PL w v' S' vw rs w'
 ch:Yy T' N' N rs es N'
 fi:Yy.FineL T' rs es
 tk:∃g ts e',g<=f/\p.data.toList=tx ts/\Pp g 2 ts e'/\es.foldr .alt e'=e
 ln:p.size<=40
 bd:N'+WB p.size P<=N+Kt
 nr:rs.length+p.size<=L
structure ze (tb base:Nat) (T:Nat->Nd) (N:Nat) (v vr:Value) (S:Nat->Prop) (w:World) (P i:Nat) (A:List (List Tq × Rx)) (T':Nat->Nd) (N':Nat) (vw:Value) (rs:List Nat) (vk:Value) (ks:List Nat) (T2:Nat->Nd) (N2:Nat) (v2:Value) (S2:Nat->Prop) (w2:World):Prop where
 gs:GS tb base T N v vr S w T2 N2 v2 S2 w2
 pk:PL w v2 S2 vk ks w2
 pr:PL w v2 S2 vw rs w2
 ds:∀k,vw.ownBlock=some k->vk.ownBlock≠some k
 ch:Yy T2 N2 N' ks (A.map (·.2)) N2
 od:∀j,j<N'->T2 j=T' j
 ix:i=(tx ((A.map (·.1)).flatten)).length
 bd:N2<=N'+WB i P
 le:N'<=N2
variable {T T':Nat->Nd}
def ze.first(P:Nat)(g:GS tb base T N v vr S w T' N' v' S' w')(p:PL w v' S' vw rs w'):ze tb base T N v vr S w P 0 [] T' N' vw rs (sN) [] T' N' v' S' w':=
 ⟨g,PL.nil _ _ _ _,p,λk _ e=>(by cases e),Yy.nil N',λ_ _=>rfl,rfl,Qo,Zg _⟩
def ze.more{tb base:Nat}{T:Nat->Nd}{N:Nat}{v vr:Value}{S:Nat->Prop}{w:World}{P i:Nat}{A:List (List Tq × Rx)}{T':Nat->Nd}{N':Nat}{vw:Value}{rs:List Nat}{vk:Value}{ks:List Nat}{T2:Nat->Nd}{J:Nat}{v2:Value}{S2:Nat->Prop}{w2:World}(h:ze tb base T N v vr S w P i A T' N' vw rs vk ks T2 J v2 S2 w2)(z:tb<w.heap.size)
  {x:List Tq × Rx}{H:Nat->Nd}{n:Nat}{v3:Value}{Y:Nat->Prop}{w3 w4 w5:World} (h1:TW tb base H (n+1) (n+1) v3 vr Y w3) (h2:TF tb v2 v3 S2 Y w2 w3) (h3:Md H (n+1)) (Z:ST H (n+1) J n x.2) (h5:∀i,i<J->H i=T2 i) (h6:n+1<=J+WB (tx x.1).length P) (hW:Bl w3 w4)
  {g len cap:Nat} (hg:w4.grownBy w5 vk.ownBlock) (ho:OwnL w.heap.size (sL g len cap) (ks.map (λx:Nat=>(x:Int))++[(n:Int)]) w5) (hb:vk.ownBlock=some g\/g=w4.heap.size):
  ze tb base T N v vr S w P (i+(tx x.1).length) (A++[x]) T' N' vw rs (sL g len cap) (ks++[n]) H (n+1) v3 Y w5:=by
 have d:=(h.gs.made h1 h2 h3 Z h5).below hW;have f:=(h.pk.tf z h2).below hW;have b:=(h.pr.tf z h2).below hW;let⟨G5,l⟩:=f.app d z hg ho hb;refine⟨G5,l,b.keep hg (λk a e=>h.ds k a e),λk a e=>?_,?_,λj m=>?_,?_,?_,?_⟩
 .have e':g=k:=Zh e;rcases hb with c|c
  .exact h.ds k a (e'▸c)
  have:=(b.o.blk k a).2;omega
 .rw[eK];exact h.ch.more h.gs.r.w h5 Z
 .rw[h5 j (by have:=h.le;omega)];exact h.od j m
 .rw[h.ix,eK,List.flatten_append,UX,Zl];simp
 .have:=h.bd;rw[Qt];omega
 have:=h.le;have:=Z.ge;omega
def BJ{p:ByteArray}{L:List (List Tq × Rx)}{A B:List (List Tq × Rx)}{x:List Tq × Rx}{rest:List UInt8}(hp:p.data.toList=tx ((L.map (·.1)).flatten)++rest)(hL:L=A++x::B){i n:Nat}(hi:i=(tx ((A.map (·.1)).flatten)).length)(hn:n=(tx ((L.map (·.1)).flatten)).length):
  (p.extract i n).data.toList=tx x.1++tx ((B.map (·.1)).flatten)/\(p.extract i (i+(tx x.1).length)).data.toList=tx x.1/\i+(tx x.1).length<=n/\n<=p.size:=by
 have e:tx ((L.map (·.1)).flatten)=tx ((A.map (·.1)).flatten)++(tx x.1++tx ((B.map (·.1)).flatten)):=by
  rw[hL,eK,List.flatten_append,UX,QL]
 have a:n=i+((tx x.1).length+(tx ((B.map (·.1)).flatten)).length):=by rw[hn,e,hi];simp
 have b:p.size=n+rest.length:=by
  have:p.data.toList.length=n+rest.length:=by rw[hp,Zl,hn]
  simpa using this
 refine⟨?_,?_,by omega,by omega⟩
 .rw[TH,hp,hn,eR,e,hi,eL]
 rw[E6,hp,e,hi,Zs,eL,Zs,eR]
def Gs{f:Nat}(ih:∀g,g<f->∀ts e,Pp g 0 ts e->Ml ts e){ts:List Tq}{e:Rx}(h:Pp f 2 ts e):zB ts e:=by
 intro tb base s T N v vr S w aY hs hp;obtain⟨P,hP⟩:=nam e.sz;rw[<-hP]at hp ⊢;have a5:=hyd hP;have ae:=hp.t.c.lt;have aG:=hp.b;have hb:=hp.s;have hN:=hp.n;have a3:=hyd ih;obtain⟨Kt,ay⟩:=nam (WB s.size P);obtain⟨sL,Uf⟩:=nam s.size;have aN:Hid (xy tb base T N v vr S w f P Kt sL e s (.slice none 0 0) [] [] T N v S w):=⟨GS.first hp,PL.nil _ _ _ _,Yy.nil N,λj k x h=>by simp at h,⟨f,ts,e,Zg _,aY,h,rfl⟩,hs,by rw[ay];omega,by simp[Uf]⟩;rw[<-ay]at hN ⊢;have bo:sL<=40:=by omega
 clear ih h aY hp hP ay Uf;go_enter func91,ntmps91;go_wp2_with fail
 go_loopw [1,5] (λpv rv w'=>∃(p:ByteArray) (ra:Option Addr) (M rc:Nat) (rs:List Nat) (es:List Rx) (T':Nat->Nd) (N':Nat) (v':Value) (S':Nat->Prop),pv=.string p/\rv=.slice ra M rc/\Hid (M=rs.length)/\xy tb base T N v vr S w f P Kt sL e p (.slice ra M rc) rs es T' N' v' S' w') (λpv _ _=>ym pv)
 .exact⟨s,none,0,0,[],[],T,N,v,S,rfl,rfl,rfl,aN⟩
 clear aN;obtain⟨p,ra,M,rc,rs,es,T',N',v',S',rfl,rfl,aw,PS⟩:=hrel;obtain⟨g,ts,e',hg,Z,aV,aB⟩:=PS.tk;obtain⟨g',L,rest,bz,aZ,hL,D⟩:=Ap aV;rw[aZ]at Z;have an:=PS.ln;obtain⟨n,hn⟩:=nam ((tx ((L.map (·.1)).flatten)).length);have aX:p.size=n+rest.length:=by
  have:p.data.toList.length=n+rest.length:=by rw[Z,Zl,hn]
  simpa using this
 have aa:∀c r',rest=c::r'->c=124:=λc r' e1=>by
  rcases D with ⟨h1,_⟩|⟨q,e2,g2,_,h1,_⟩
  .rw[h1]at e1;cases e1
  rw[h1]at e1;exact(gE e1).1.symm
 have ac:=yV L hL p.data.toList 0 (L.length+1) rest (by rw[Zw];exact Z) aa (by omega);rw[Zn,<-hn]at ac;have HR:Hid (∀w',Cp 146 #[.string p] w' λe w''=>e=.returned (.int .i64 n)/\Bl w' w''):=λw'=>Ax p n _ w' an ac
 have C:=hyd PS;have bw:=PS.bd;have ap:∀x∈L,x.2.sz<=P:=λx hx=>by
  rw[a5.out,<-aB,BD];have h1:x.2.sz<=((L.map (·.2)).map Rx.sz).sum:=y7 (eV.2 ⟨x,hx,rfl⟩);have h2:=Rx.rowOf_sz (L.map (·.2));rcases D with ⟨_,h3⟩|⟨q,e2,g2,_,_,_,h3⟩
  .rw[h3];omega
  rw[h3];simp only[Rx.sz];omega
 have HL:Hid (∀x∈L,Ml x.1 x.2/\Pp g' 0 x.1 x.2/\x.2.sz<=P):=λx hx=>⟨a3 g' (by omega) _ _ (hL x hx),hL x hx,ap x hx⟩
 have R:=hyd2 Z hn;have av:=hyd D;have aO:=hyd aB;have bp:n<=40:=by omega
 have be:WB p.size P=WB n P+WB rest.length P:=by rw[aX,Qt]
 have ao:(p.size:Int)=(n:Int)+(rest.length:Int):=by omega
 obtain⟨rL,aF⟩:=nam rest.length;rw[<-aF]at aX be ao;have aQ:=hyd aF;clear PS Z aV aB hL D hn ac aa aZ ap aF;go_wp2_with fail;refine(HR _).mono ?_;rintro ee w1 ⟨rfl,aA⟩;have aI:=hyd (ze.first P (C.out.gs.below aA) (C.out.pl.below aA));clear HR;go_wp2_with fail
 go_loopw [7,8] (λkv iv w2=>∃(i:Nat) (ka:Option Addr) (kl kc:Nat) (A B:List (List Tq × Rx)) (ks:List Nat) (T2:Nat->Nd) (d:Nat) (v2:Value) (S2:Nat->Prop),iv=.int .i64 i/\kv=.slice ka kl kc/\Hid ((ks.map (λx:Nat=>(x:Int))).length=kl)/\Hid (L=A++B)/\ze tb base T N v vr S w P i A T' N' (.slice ra M rc) rs (.slice ka kl kc) ks T2 d v2 S2 w2) (λ_ iv _=>41-(intOf iv).toNat)
 .exact⟨0,none,0,0,[],L,[],T',N',v',S',rfl,rfl,rfl,rfl,aI⟩
 clear aI aA;obtain⟨i,ka,kl,kc,A,B,ks,T2,d,v2,S2,rfl,rfl,Q,z,RS⟩:=hrel;rcases B with _|⟨x,B⟩
 .have ax:L=A:=by have:=z.out;simpa using this
  have bb:i=n:=by rw[RS.ix,R.out.2,ax]
  subst bb;have bB:¬(i:Int)<i:=by omega
  have ak:=RS.ch.le;have bv:=C.out.gs.l;have ab:=C.out.ch.le;have bi:=RS.bd;have a8:d<=1000000:=by omega
  have aT:ks.length<=1000:=by
   rw[ak.2.1,Zy];have h2:=Pv (f:=g') (L:=A) (λy hy=>(HL.out y (by rw[z.out];simp[hy])).2.1);rw[<-RS.ix]at h2;omega
  have aJ:Hid (Cp 148 #[.pointer (some ⟨tb,0,none⟩),.int .i64 (1:Nat),.slice ka kl kc] wr λe w'=>∃v3,e=.returned (.int .i64 (d:Int))/\GS tb base T N v vr S w (Yv T2 d 1 ks (λ_=>false)) (d+1) v3 (λk=>S2 k\/(Value.slice ka kl kc).ownBlock=some k) w'/\TF tb v2 v3 S2 S2 wr w'):=
   RS.gs.node (Jz.of RS.pk.o) (λk I=>⟨(RS.pk.o.blk k I).1,(RS.pk.o.blk k I).2,(RS.pk.s k I).1⟩) aG hb 1 (by omega) (by omega) (λk I=>by have:=ak.2.2.1 k I;omega) RS.ch.nodup a8 aT
  have hF:=Nr RS.gs.r.w RS.ch;have Y:∀j,j<N'->Yv T2 d 1 ks (λ_=>false) j=T' j:=λj hj=>by
   rw[WZ (by have:=RS.le;omega) (λhm=>by have:=(ak.2.2.1 j hm).1;omega)];exact RS.od j hj
  obtain⟨er,aC⟩:=nam (Rx.rowOf (A.map (·.2)));rw[<-aC]at hF;have ag:=hyd (C.out.ch.more C.out.gs.r.w Y hF);have aH:=hyd (ML (λk I=>(ab.2.2.1 k I).2) ab.2.1 C.out.fi Y hF);have au:=hyd2 RS.pr RS.ds;have aj:Hid ((rs.map (λx:Nat=>(x:Int))).length=M):=by show _=_;rw[Zy,aw.out]
  have aU:=C.out.nr;have bm:M<=40:=by rw[aw.out];omega
  have aP:Hid (er=Rx.rowOf (L.map (·.2))):=by show _=_;rw[aC,ax]
  have aK:=hyd aU;clear RS ak hF Y aC aT ab aU Q z ax C;go_wp2_with fail;refine aJ.out.mono ?_;rintro ee O ⟨v4,rfl,G4,af⟩;have E:=box_bel O (.cells #[.int .i64 (d:Int)] 3);have G5:=G4.below E;have P5:=((au.out.1.tf ae af).add (λk I=>au.out.2 k I)).below E;have U:=P5.o;have X:(O.alloc (.cells #[.int .i64 (d:Int)] 3)).cell? ⟨O.heap.size,0,none⟩=some (.int .i64 (d:Int)):=by rw[Zm];rfl
  have V:=G5.f.b.size;have ah:=hyd2 G5 P5;clear aJ G4 af G5 P5 E au;rcases av with ⟨J,W⟩|⟨q,e2,g2,bA,J,aW,W⟩
  .have bf:rL=0:=by rw[aQ.out,J];rfl
   subst bf;have He:Hid (es.foldr .alt er=e):=by show _=_;rw[<-aO.out,W,aP.out]
   clear J W ao;go_wp2_with (first|(at_builtin;refine Bm.wpList_append_int (by rfl) _ _ (by rfl) w.heap.size (.slice ra M rc) _ (by rfl) U (by rw[aj.out];omega) O.heap.size (d:Int) (by rfl) X V _ rfl ?_;rw[aj.out];intro g cap w5 G u H aD;refine Ya.out ?_));refine⟨?_⟩;obtain⟨G6,P6⟩:=ah.out.2.app ah.out.1 ae u G H;have bn:=aK.out;have a4:Hid (Cp 148 #[.pointer (some ⟨tb,0,none⟩),.int .i64 (2:Nat),.slice (some ⟨g,0,none⟩) (M+1) cap] w5 λe w'=>∃v3,e=.returned (.int .i64 ((d+1:Nat):Int))/\GS tb base T N v vr S w (Yv (Yv T2 d 1 ks (λ_=>false)) (d+1) 2 (rs++[d]) (λ_=>false)) (d+1+1) v3 (λk=>(S2 k\/(Value.slice ka kl kc).ownBlock=some k)\/(Value.slice (some ⟨g,0,none⟩) (M+1) cap).ownBlock=some k) w'/\TF tb v4 v3 (λk=>S2 k\/(Value.slice ka kl kc).ownBlock=some k) (λk=>S2 k\/(Value.slice ka kl kc).ownBlock=some k) w5 w'):=
    G6.node (Jz.of P6.o) (λk I=>⟨(P6.o.blk k I).1,(P6.o.blk k I).2,(P6.s k I).1⟩) aG hb 2 (by omega) (by omega) ag.out.le.2.2.1 ag.out.nodup (by omega) (by simp;omega)
   have a2:Hid (ST (Yv (Yv T2 d 1 ks (λ_=>false)) (d+1) 2 (rs++[d]) (λ_=>false)) (d+1+1) N (d+1) e):=by
    show ST _ _ _ _ _;rw[<-He.out];exact(OK G6.r.w ag.out aH.out (by simp)).eq (Hj es er)
   clear G6 P6 G u H aD U X V bn;go_wp2_with fail;refine a4.out.mono ?_;rintro ee w6 ⟨v6,rfl,G6,_⟩;go_wp2_with fail;go_ret;exact G6.post a2 (by omega)
  have bj:rL=(tx q).length+1:=by rw[aQ.out,J];simp
  have bF:WB rL P=WB (tx q).length P+WB 1 P:=by rw[bj,Qt]
  have bG:=J5 (P:=P) (Zg 1);have hx:(p.extract (i+1) p.size).data.toList=tx q:=by
   rw[Sx,R.out.1,J,R.out.2,<-eC,eL];rfl
  have K:(p.extract (i+1) p.size).size=(tx q).length:=by simp;omega
  have HX:=hyd2 hx K;have He:Hid ((es++[er]).foldr .alt e2=e):=by
   show _=_;rw[List.foldr_append,<-aO.out,W,aP.out];rfl
  have a6:=hyd aW;clear J W aW hx K;go_wp2_with (first|(at_builtin;refine Bm.wpList_append_int (by rfl) _ _ (by rfl) w.heap.size (.slice ra M rc) _ (by rfl) U (by rw[aj.out];omega) O.heap.size (d:Int) (by rfl) X V _ rfl ?_;rw[aj.out];intro g cap w5 G u H aD));obtain⟨G6,P6⟩:=ah.out.2.app ah.out.1 ae u G H;go_roundw
  .refine⟨p.extract (i+1) p.size,some ⟨g,0,none⟩,M+1,cap,rs++[d],es++[er],Yv T2 d 1 ks (λ_=>false),d+1,v4,_,?_,rfl,by show _=_;have:=aw.out;simp[this],⟨G6,P6,ag.out,aH.out,⟨g2,q,e2,by omega,HX.out.1,a6.out,He.out⟩,by rw[HX.out.2];omega,by rw[HX.out.2];omega,by rw[HX.out.2];have:=aK.out;simp;omega⟩⟩
   first|rfl|(congr 2;omega)
  show(p.extract (i+1) _).size<p.size;simp;omega
 obtain⟨s1,s2,s3,s4⟩:=BJ R.out.1 z.out RS.ix R.out.2;obtain⟨aR,az,am⟩:=HL.out x (by rw[z.out];simp);obtain⟨m,hm⟩:=nam ((tx x.1).length);have bc:=Ki az;rw[<-hm]at s2 s3 bc;have bE:(i:Int)<n:=by omega
 have aE:=I4 az (tx ((B.map (·.1)).flatten)) (by
  have:=MN (f:=g') (L:=B) (r:=[]) (λy hy=>(HL.out y (by rw[z.out];simp[hy])).2.1) (λc r' e=>by cases e);have h':EU (tx ((B.map (·.1)).flatten)):=by simpa using this
  exact h')
 rw[<-s1,<-hm]at aE;have aM:Hid (∀w',Cp 112 #[.string (p.extract i n)] w' λe w''=>e=.returned (.int .i64 m)/\Bl w' w''):=λw'=>PE _ m w' (WD p _ _ an) aE
 have K:(p.extract i (i+m)).size=m:=by simp;omega
 have bq:=Qt i m P;have br:WB (i+m) P<=WB n P:=by
  obtain⟨dd,a9⟩:∃dd,n=i+m+dd:=⟨n-(i+m),by omega⟩;have:=Qt (i+m) dd P;rw[a9];omega
 have bt:=Ci (L:=m) am;have bi:=RS.bd;have aL:Hid (∀w',Bl wr w'->Cp 147 #[.pointer (some ⟨tb,0,none⟩),.string (p.extract i (i+m))] w' (Yp tb base T2 d v2 vr S2 x.2 (WB m x.2.sz) w')):=λw' hW=>by
  have:=aR tb base (p.extract i (i+m)) T2 d v2 vr S2 w' s2 (by omega) (by rw[K];exact(RS.gs.below hW).pre aG hb (by omega));rw[K]at this;exact this
 have ai:=hyd RS;have Hm:=hyd hm;have bu:(i:Int)+(m:Int)<=(p.size:Int):=by omega
 have bC:(i:Int)<=n:=by omega
 have bD:kl<=40:=by
  have h1:=Q.out;rw[Zy,RS.ch.le.2.1,Zy]at h1;have h2:=Pv (f:=g') (L:=A) (λy hy=>(HL.out y (by rw[z.out];simp[hy])).2.1);rw[<-RS.ix]at h2;omega
 generalize WB m x.2.sz=Kx at *;clear s1 s2 aR az am aE K RS hm;go_wp2_with fail;refine(aM _).mono ?_;rintro ee w3 ⟨rfl,aS⟩;have al:=hyd (aL w3 aS);clear aM aL;go_wp2_with fail;refine al.out.mono ?_;rintro ee O ⟨T3,a,v3,S3,rfl,a1,af,a0,f4,aq,bH⟩;have E:=box_bel O (.cells #[.int .i64 (a:Int)] 3);have F:=(TF.of v2 S2 (ZM ai.out.gs.t.c.lt) aS).trans af;have U:=(ai.out.pk.tf ae F).o.below E;have X:(O.alloc (.cells #[.int .i64 (a:Int)] 3)).cell? ⟨O.heap.size,0,none⟩=some (.int .i64 (a:Int)):=by rw[Zm];rfl
 have V:w.heap.size<=(O.alloc (.cells #[.int .i64 (a:Int)] 3)).heap.size:=by
  have h1:=ai.out.gs.f.b.size;have h2:=F.b.size;have h3:=E.size;omega
 have ar:Hid (∀g cap w5,OwnL w.heap.size (.slice (some ⟨g,0,none⟩) (kl+1) cap) (ks.map (λx:Nat=>(x:Int))++[(a:Int)]) w5->(O.alloc (.cells #[.int .i64 (a:Int)] 3)).grownBy w5 (Value.slice ka kl kc).ownBlock->((Value.slice ka kl kc).ownBlock=some g\/g=(O.alloc (.cells #[.int .i64 (a:Int)] 3)).heap.size) ->
   ze tb base T N v vr S w P (i+m) (A++[x]) T' N' (.slice ra M rc) rs (.slice (some ⟨g,0,none⟩) (kl+1) cap) (ks++[a]) T3 (a+1) v3 S3 w5):=λg cap w5 h1 h2 h3=>by
  have:=ai.out.more ae a1 F a0 f4 aq (by rw[<-Hm.out];omega) E h2 h1 h3;rw[<-Hm.out]at this;exact this
 clear al a1 af a0 f4 aq F E;go_wp2_with (first|(at_builtin;refine Bm.wpList_append_int (by rfl) _ _ (by rfl) w.heap.size (.slice ka kl kc) _ (by rfl) U (by rw[Q.out];omega) O.heap.size (a:Int) (by rfl) X V _ rfl ?_;rw[Q.out];intro g cap w5 G u H aD));have a7:=ar.out g cap w5 G u H;go_roundw
 .exact⟨i+m,some ⟨g,0,none⟩,kl+1,cap,A++[x],B,ks++[a],T3,a+1,v3,S3,by go_num,rfl,by show _=_;have:=Q.out;simp at this;simp[this],by show _=_;rw[z.out];simp,a7⟩
 simp[intOf];omega
def El{f:Nat}(ih:∀g,g<f->(∀ts e,Pp g 0 ts e->Ml ts e)/\(∀ts e,Pp g 2 ts e->zB ts e)){ts:List Tq}{e:Rx}(h:Pp f 0 ts e):Ml ts e:=by
 by_cases hz:e.sz=0
 .exact Jh h hz
 cases f with
 |zero=>exact absurd h (by simp[Pp])
 |succ f=>
  have h0:=h;rcases h with ⟨q,rfl,k,o,rfl⟩|⟨a,inn,b,e0,rfl,ha,l,p,m,i,rfl⟩|⟨q,t,e0,rfl,k,u,hs,rfl⟩
  .have c:tx [q]=q.t.w:=by rw[Sk,KP,dv]
   refine Pc h0 hz (by rw[c];exact J3 k o) (λtb base s T N v vr S w d hs i=>?_);have r:1<=s.size:=by
    have:=Ki h0;rw[<-d]at this;simpa using this
   have h3:=J5 (P:=(Rx.lit q.f).sz) r;exact(D9 k o tb base s T N v vr S w (by rw[d,c]) hs (i.less Qo)).mono (λee w' h=>h.eq (XU.refl _) Qo)
  .have n:e0.nz=e0:=by
    rw[Rx.nz_sz]at hz;unfold Rx.nz;rw[dG hz]
   have c:tx (a::(inn++[b]))=40::(tx inn++[41]):=by rw[Sk,UX,Sk,KP,yQ ha l,yX p m];simp
   rw[n]at h0 hz ⊢;refine Pc h0 hz (by rw[c];exact Iy i) (λtb base s T N v vr S w d hs j=>?_);exact BG ((ih f Qo).2 _ _ i) tb base s T N v vr S w (by rw[d,c]) hs j i
  exact GA k u hs ((ih f Qo).1 _ _ k) h0 hz
def BI:∀f,(∀ts e,Pp f 0 ts e->Ml ts e)/\(∀ts e,Pp f 2 ts e->zB ts e):=by
 intro f
 induction f using Nat.strongRecOn with
 |ind f ih=>exact⟨λts e h=>El ih h,λts e h=>Gs (λg a=>(ih g a).1) h⟩
def TW.root{M:Nat}(h:TW tb base T N M v vr S w)(H:tb<base)(z:Value):TW tb base T N M v z S (w.setCell (a_ tb 1) z):=by
 let⟨m,d,g⟩:=h.o;have b:∀q,q≠tb->(w.setCell (a_ tb 1) z).heap[q]?=w.heap[q]?:=λq f=>Zq w (a_ tb 1) _ q (λe=>f e)
 exact⟨h.c.set 1 Qs z,⟨m,XS d (λk a=>b k (by have:=(d.lt k a).1;omega)),g.move (λk a=>b k (h.s k a).2.1) (λ_ h=>h)⟩,λk a=>⟨by rw[Zz];exact(h.s k a).1,(h.s k a).2⟩⟩
structure AJ (tb:Nat) (T:Nat->Nd) (N g cap:Nat) (m:Pl) (w:World):Prop where
 c:w.cell? ⟨tb,0,none⟩=some (.slice (some ⟨g,0,none⟩) N cap)
 r:w.cell? ⟨tb,1,none⟩=some (.int .i64 ((N:Int)-1))
 n:∀i,i<N->w.rangeAt g (i*5) (LM T m i)/\(m.vin i).oneCell'=true/\IL (m.ka i) (fun k=>(((T i).kids.getD k 0:Nat):Int)) (T i).kids.length w/\((T i).kind=0->∃ia ic,m.vin i=.slice ia 256 ic/\BR ia (T i).inn 256 w)
def AJ.tr{m:Pl}(h:AJ tb T N g cap m w):TR tb T N w:=
 ⟨_,cap,h.c,λi a=>⟨g,0,m.vin i,m.ka i,m.kc i,rfl,by rw[Zn];exact(h.n i a).1,(h.n i a).2.1,(h.n i a).2.2.1,(h.n i a).2.2.2⟩⟩
structure Dm (X:Nat->Prop) (tb:Nat) (T:Nat->Nd) (N g cap:Nat) (m:Pl) (w:World):Prop where
 s:∀k,X k->k<w.heap.size
 t:∀w',Wk X w w'->w.heap.size<=w'.heap.size->AJ tb T N g cap m w'
def Dm.keep{m:Pl}(h:Dm X tb T N g cap m w)(ha:Wk X w w')(hs:w.heap.size<=w'.heap.size):Dm X tb T N g cap m w':=
 ⟨λk a=>by have:=h.s k a;omega,λw2 h2 h3=>h.t w2 (ha.trans h2) Qo⟩
def EC(w:World):(Instr.build 116 #[]).run prog w=.ok (.agg #[sN,I6 0]) w:=Qk
def QX(w:World)(e:Rx)(ee:Ending)(w':World):Prop:=
 ∃T N X g cap m,ee=.returned (.pointer (some ⟨w.heap.size,0,none⟩))/\Md T N/\1<=N/\N<=20000/\Good T N 0 (N-1) e/\Dm X w.heap.size T N g cap m w'/\(∀k,X k->w.heap.size<=k)/\Below w.heap.size w w'/\w.heap.size<w'.heap.size
def Iz{f:Nat}(h:Pp f 2 ts e)(s:ByteArray)(hts:s.data.toList=tx ts)(hs:s.size<=40)(he:e.sz<=96)(w:World):
  Cp 39 #[.string s] w (QX w e):=by
 have R:=EC;obtain⟨W,r⟩:=nam (w.alloc (.cells #[.slice none 0 0,.int .i64 0] 116));have J:=hyd r;have V:W.heap.size=w.heap.size+1:=by rw[r];simp
 have O:Bl w W:=by rw[r];exact box_bel _ _
 have q:TC w.heap.size [.slice none 0 0,.int .i64 0] W:=by rw[r];exact TC.boxed w [.slice none 0 0,.int .i64 0] _
 have Q:WB s.size e.sz+2<=20000:=by
  unfold WB;have h1:s.size*max e.sz 1<=40*96:=dP hs Qo;omega
 have G:=(BI f).2 ts e h w.heap.size (w.heap.size+1) s (λ_=>Ro 0 []) 0 (.slice none 0 0) (.int .i64 0) (λ_=>False) W hts hs ⟨TW.new _ _ _ _ q _,Md.zero _,Qo,Qo,Qo⟩;generalize WB s.size e.sz+2=K at *;have D:Hid (Cp 91 #[.pointer (some ⟨w.heap.size,0,none⟩),.string s] W (Yp w.heap.size (w.heap.size+1) (λ_=>Ro 0 []) 0 (.slice none 0 0) (.int .i64 0) (λ_=>False) e K W)):=G;clear G r hts h q;go_enter func39,ntmps39;go_wp2_with fail;rw[<-J.o];refine D.o.mono ?_;rintro ee w1 ⟨T,n,v,S,rfl,C,tf,tr,F,_,ln⟩;have c1:=C.c 1 _ rfl;have l:Hid (TW w.heap.size (w.heap.size+1) T (n+1) (n+1) v (.int .i64 (n:Int)) S (w1.setCell ⟨w.heap.size,1,none⟩ (.int .i64 (n:Int)))):=C.root Qo _;have E:Hid (Md T (n+1)/\Good T (n+1) 0 n e):=⟨tr,F.toGood⟩;have d:Hid (TF w.heap.size (.slice none 0 0) v (λ_=>False) S W w1):=tf;obtain⟨L,M⟩:=c1;clear C tf tr F D R;go_wp2_with fail;go_ret;have U:=d.o.b.size;have hs2:(w1.setCell ⟨w.heap.size,1,none⟩ (.int .i64 (n:Int))).heap.size=w1.heap.size:=Zz ..;obtain⟨g,cap,t⟩:=l.o.form;obtain⟨m,Z,B⟩:=l.o.o;refine⟨T,n+1,λk=>k=w.heap.size\/v.ownBlock=some k\/S k,g,cap,m,rfl,E.o.1,Qo,Qo,E.o.2,⟨λk a=>?_,λw' A y=>?_⟩,λk a=>?_,?_,Qo⟩
 .rcases a with h|h|h
  .omega
  .exact(l.o.blk k h).2
  exact(l.o.s k h).1
 .have H:=l.o.keep y (λk a=>A k a);have z:=XS Z (λk a=>A k (Or.inr (Or.inl a)));rw[t]at z;have c0:=(H.c 0 _ rfl).1;rw[t]at c0;refine⟨c0,?_,λi x=>⟨λj u I=>?_,B.o i x,B.k i x w' (λk a=>A k (Or.inr (Or.inr a))),λh0=>?_⟩⟩
  .rw[(H.c 1 _ rfl).1];congr 2;omega
  .have P:j<5:=(Zi.1 I).1;rw[z.cellAt (i*5+j) Qo,UK (Tl T m) i j x P];exact I
  obtain⟨X,Y,N,e2⟩:=B.i i x x h0;exact⟨X,Y,N,e2 w' (λk a=>A k (Or.inr (Or.inr a)))⟩
 .rcases a with h|h|h
  .omega
  .rcases d.o.o k h with h1|h1
   .cases h1
   omega
  rcases d.o.s k h with h1|h1
  .exact h1.elim
  omega
 exact(O.trans (d.o.b)).setCell (p:=⟨w.heap.size,1,none⟩) (Zg _) _
def AK(Ts:Nat->Nat->Nd)(ti nd:Nat->Nat)(p b:Nat):Bool:=(Ts (ti p) (nd p)).inn b
def De(gb P R:Nat)(tr:Nat->Nat)(Ts:Nat->Nat->Nd)(Ns ti nd:Nat->Nat)(b:Nat)(w:World)(hP:P<=1000000)(hR:R<=1000000)(Z:∀r,r<R->Ns r<=1000000)(hG:GR gb P R tr Ts Ns ti nd w)(hb:b<256):
  Cp 54 #[pT gb,I6 b] w λe w'=>e=.returned (I6 (least (Kq (AK Ts ti nd) P) b))/\Bl w w':=by
 have g:Hid (∀(p c:Nat) (w':World),p<P->c<256->Bl w w'->Cp 116 #[pT gb,I6 p,I6 c] w' λe w''=>e=.returned (.bool (AK Ts ti nd p c))/\Bl w' w''):=λp c w' h1 h2 h=>Lz gb P R tr Ts Ns ti nd p c w' hP hR Z (hG.below h) h1 h2
 have k:Hid (∃a x,∀w',Bl w w'->w'.cell? (a_ gb 1)=some (.slice a P x)):=by
  let⟨a,x,c,_⟩:=hG.p;exact⟨a,x,λw' h=>by rw[h.cell (p:=(a_ gb 1)) (Ze w _ c)];exact c⟩
 let⟨U,x1,n⟩:=k.o;have y:=hyd n;have N:(P:Int)<=1000000:=Qo
 have O:(b:Int)<256:=Qo
 let⟨hs,o⟩:=nam (AK Ts ti nd);rw[<-o]at g ⊢;have J:=hyd (Vi hs P 256);clear k n hG Z o;go_enter func54,ntmps54;go_wp2
 go_loopw [5] (λx w'=>∃a:Nat,a<=b/\x=I6 a/\Hid (∀c,c<a->Kq hs P c b=false)/\Bl w w') (λx _=>b-(intOf x).toNat)
 .exact⟨0,Qo,rfl,λc K=>Qo,Zk _ _⟩
 obtain⟨a,ha,rfl,d,B⟩:=hrel;by_cases Q:a<b
 .have L:(a:Int)<b:=Qo
  go_wp2
  go_loopw [6,7] (λs x w'=>∃(p:Nat) (S:Bool),p<=P/\x=I6 p/\s=.bool S/\Hid (S=(List.range p).all λq=>hs q a==hs q b)/\Bl w w') (λs x _=>P-(intOf x).toNat)
  .exact⟨0,true,Qo,rfl,rfl,rfl,B⟩
  clear B;obtain⟨p,S,V,rfl,rfl,HS,B⟩:=hrel;have c1:=y.o wr B;by_cases t:p<P
  .have M:(p:Int)<P:=Qo
   cases S
   .-- parted: the loop ends
    have z:Hid (∀c,c<a+1->Kq hs P c b=false):=λc K=>by
     by_cases e:c=a
     .subst e;cases hk:Kq hs P c b
      .rfl
      have h1:=(Vj hs P c b).1 hk;have h2:(List.range p).all (λq=>hs q c==hs q b)=true:=by
       rw[List.all_eq_true];intro q T;rw[h1 q (by have:=ZI.1 T;omega)];simp
      have h3:=HS.o;rw[h2]at h3;cases h3
     exact d c Qo
    clear d HS;go_wp2;go_roundw
    .exact⟨a+1,Qo,Qg,z,B⟩
    simp[intOf];omega
   have i:=hyd (g p a wr t Qo B);have j:Hid (∀w',Bl w w'->Cp 116 #[pT gb,I6 p,I6 b] w' λe w''=>e=.returned (.bool (hs p b))/\Bl w' w''):=λw' h=>g.o p b w' t hb h
   have l:Hid ((hs p a==hs p b)=(List.range (p+1)).all λq=>hs q a==hs q b):=by
    show _=_;rw[ZT,List.all_append,<-HS.o];simp
   let⟨X,C⟩:=nam (hs p a);let⟨Y,D⟩:=nam (hs p b);rw[<-C,<-D]at l;rw[<-C]at i;rw[<-D]at j;clear C D HS;go_wp2_with fail;apply i.o.mono;rintro e w3 ⟨rfl,H⟩;have f:=B.trans (H.mono B.size);have m:=hyd (j w3 f);clear i j H c1;go_wp2_with fail;apply m.o.mono;rintro e W ⟨rfl,I⟩;have v:=f.trans (I.mono f.size);clear m I;cases X<;>cases Y<;>(go_wp2;go_roundw;(case rel=>exact⟨p+1,_,Qo,Qg,rfl,l,v⟩);(case measure=>simp[intOf];omega))
  have F:¬(p:Int)<P:=Qo
  have G:p=P:=Qo
  subst G;have u:Hid (Kq hs p a b=S):=by show _=_;rw[HS.o];rfl
  cases S
  .have z:Hid (∀c,c<a+1->Kq hs p c b=false):=λc K=>by
    by_cases e:c=a
    .subst e;exact u.o
    exact d c Qo
   clear d HS u;go_wp2;go_roundw
   .exact⟨a+1,Qo,Qg,z,B⟩
   simp[intOf];omega
  have A:Hid ((least (Kq hs p) b:Int)=a):=by
   show _=_;rw[least_eq u.o d.o (least_like J.o hb)]
  clear d HS u;go_wp2;go_ret;exact⟨Y2 A.o.symm,B⟩
 have F:¬(a:Int)<b:=Qo
 have E:a=b:=Qo
 subst E;have A:Hid ((least (Kq hs P) a:Int)=a):=by
  show _=_;have h1:=least_le (Kq hs P) a;by_cases e:least (Kq hs P) a=a
  .rw[e]
  have h2:=d.o (least (Kq hs P) a) Qo;rw[least_like J.o hb]at h2;cases h2
 clear d;go_wp2;go_ret;exact⟨Y2 A.o.symm,B⟩
end
section
open Bm
namespace Rx
def fst_add:∀(e:Rx) (o p d:Nat),e.fst (o+d) (p+d)=e.fst o p
 |eps,_,_,_=>rfl
 |lit _,o,p,d=>by
  simp only[fst];by_cases h:p=o
  .subst h;simp only[dK]
  rw[show(p+d==o+d)=false from dU.2 Qo,show(p==o)=false from dU.2 h]
 |cat a b,o,p,d=>by simp only[fst];rw[fst_add a,show o+d+a.sz=(o+a.sz)+d by omega,fst_add b]
 |alt a b,o,p,d=>by simp only[fst];rw[fst_add a,show o+d+a.sz=(o+a.sz)+d by omega,fst_add b]
 |star a,o,p,d=>fst_add a o p d
 |plus a,o,p,d=>fst_add a o p d
 |opt a,o,p,d=>fst_add a o p d
def lst_add:∀(e:Rx) (o p d:Nat),e.lst (o+d) (p+d)=e.lst o p
 |eps,_,_,_=>rfl
 |lit _,o,p,d=>by
  simp only[lst];by_cases h:p=o
  .subst h;simp only[dK]
  rw[show(p+d==o+d)=false from dU.2 Qo,show(p==o)=false from dU.2 h]
 |cat a b,o,p,d=>by simp only[lst];rw[lst_add a,show o+d+a.sz=(o+a.sz)+d by omega,lst_add b]
 |alt a b,o,p,d=>by simp only[lst];rw[lst_add a,show o+d+a.sz=(o+a.sz)+d by omega,lst_add b]
 |star a,o,p,d=>lst_add a o p d
 |plus a,o,p,d=>lst_add a o p d
 |opt a,o,p,d=>lst_add a o p d
def fol_add:∀(e:Rx) (o p q d:Nat),e.fol (o+d) (p+d) (q+d)=e.fol o p q
 |eps,_,_,_,_=>rfl
 |lit _,_,_,_,_=>rfl
 |cat a b,o,p,q,d=>by simp only[fol];rw[fol_add a,show o+d+a.sz=(o+a.sz)+d by omega,fol_add b,lst_add,fst_add]
 |alt a b,o,p,q,d=>by simp only[fol];rw[fol_add a,show o+d+a.sz=(o+a.sz)+d by omega,fol_add b]
 |star a,o,p,q,d=>by simp only[fol];rw[fol_add a,lst_add,fst_add]
 |plus a,o,p,q,d=>by simp only[fol];rw[fol_add a,lst_add,fst_add]
 |opt a,o,p,q,d=>fol_add a o p q d
def has_add:∀(e:Rx) (o p c d:Nat),e.has (o+d) (p+d) c=e.has o p c
 |eps,_,_,_,_=>rfl
 |lit _,o,p,c,d=>by
  simp only[has];by_cases h:p=o
  .subst h;simp only[dK]
  rw[show(p+d==o+d)=false from dU.2 Qo,show(p==o)=false from dU.2 h]
 |cat a b,o,p,c,d=>by simp only[has];rw[has_add a,show o+d+a.sz=(o+a.sz)+d by omega,has_add b]
 |alt a b,o,p,c,d=>by simp only[has];rw[has_add a,show o+d+a.sz=(o+a.sz)+d by omega,has_add b]
 |star a,o,p,c,d=>has_add a o p c d
 |plus a,o,p,c,d=>has_add a o p c d
 |opt a,o,p,c,d=>has_add a o p c d
end Rx
def Bj(T:Nat->Nd):∀(N j:Nat),j<YA T N->∃m,m<N/\(T m).kind=0/\YA T m=j
 |0,j,h=>by simp[YA]at h
 |N+1,j,h=>by
  by_cases e:j<YA T N
  .let⟨m,h1,h2,h3⟩:=Bj T N j e;exact⟨m,Qo,h2,h3⟩
  simp only[YA]at h;by_cases k:(T N).kind=0
  .rw[dF k]at h;exact⟨N,Qo,k,Qo⟩
  rw[dG k]at h;omega
structure Gm (R:Nat) (Ts:Nat->Nat->Nd) (Ns:Nat->Nat) (es:Nat->Rx) (ti nd:Nat->Nat):Prop where
 t:∀r,r<R->Md (Ts r) (Ns r)/\1<=Ns r/\Good (Ts r) (Ns r) 0 (Ns r-1) (es r)
 p:∀p,p<Y4 es R->ti p<R/\nd p<Ns (ti p)/\(Ts (ti p) (nd p)).kind=0/\p=Y4 es (ti p)+YA (Ts (ti p)) (nd p)
def Tw(T:Nat->Nd)(N:Nat)(ix:Nat->Nat)(h:Nat->Bool)(q:Nat):Bool:=(List.range N).any λm=>decide ((T m).kind=0)&&h m&&decide (q=ix m)
variable {a:Act}{ops:Array Oper}{Q:Exit->Act->World->Prop}{ks x:List Nat}{rest:List Oper}{N P R base cap g gb i k n q sb tb:Nat}{nl:N_}{ls:Nat->List Value}{Ns cp ix nd ti:Nat->Nat}{T:Nat->Nd}{X X':Nat->Prop}{vs:Nat->Value}{o:Oper}{v:Value}{w w' w1 w2:World}
def VD{h:N_}:Tw T N ix h q=true<->∃m,m<N/\(T m).kind=0/\h m=true/\q=ix m:=by
 unfold Tw;simp only[fY,ZI,ZS,eB];constructor
 .rintro ⟨m,h1,⟨h2,h3⟩,a⟩;exact⟨m,h1,h2,h3,a⟩
 rintro ⟨m,h1,h2,h3,a⟩;exact⟨m,h1,⟨h2,h3⟩,a⟩
def Dp(P q:Nat):Nat:=if q<P then q else 96+(q-P)
def Tj(es:Nat->Rx)(Ts:Nat->Nat->Nd)(r m:Nat):Nat:=Y4 es r+YA (Ts r) m
def QT(T:Nat->Nd)(N:Nat)(ix:Nat->Nat)(P r n:Nat)(q:Nat):Bool:=Tw T N ix (λm=>Me T N n (some m)) q || (decide (q=P+r)&&Me T N n none)
def Am(es:Nat->Rx)(Ts:Nat->Nat->Nd)(Ns ti nd:Nat->Nat)(P p q:Nat):Bool:=QT (Ts (ti p)) (Ns (ti p)) (Tj es Ts (ti p)) P (ti p) (nd p) q
structure AW (T:Nat->Nd) (N:Nat) (e:Rx):Prop where
 c:YA T N=e.sz
 n:Wj T (N-1)=e.nul
 f:∀m,(T m).kind=0->UF T (N-1) m=e.fst 0 (YA T m)
 b:∀m x,m<N->(T m).kind=0->(T x).kind=0->Me T N m (some x)=e.fol 0 (YA T m) (YA T x)
 b0:∀m,m<N->(T m).kind=0->Me T N m none=e.lst 0 (YA T m)
 h:∀m b,m<N->(T m).kind=0->b<256->(T m).inn b=e.has 0 (YA T m) b
variable {e:Rx}
def GO(z:Md T N)(H:1<=N)(g:Good T N 0 (N-1) e):AW T N e:=by
 obtain⟨k,rfl⟩:∃k,N=k+1:=⟨N-1,Qo⟩;simp only[gD]at g ⊢;let⟨h1,h2,h3,h,j⟩:=Dd z.w z.u g;have l:=V4 z.w z.u;have d:(T k).up<0:=by
  have:=z.u k Qo;omega
 have i:∀q,Me T (k+1) k q=(q==none):=λq=>l.bhR k q Qo d
 refine⟨h1,by simpa using h2,λm c=>by simpa using h3 m c,λm x c a o=>?_,λm c a=>?_,λm b c a n=>j m b Qo a n⟩
 .rw[h m (some x) Qo a (λy f=>by cases f;exact o),i];simp
 rw[h m none Qo a (λy f=>by cases f),i];simp
variable {Ts:Nat->Nat->Nd}{es:Nat->Rx}
def Gm.tree(h:Gm R Ts Ns es ti nd){r:Nat}(z:r<R):AW (Ts r) (Ns r) (es r):=by
 let⟨h1,h2,h3⟩:=h.t r z;exact GO h1 h2 h3
def Gm.ixlt(h:Gm R Ts Ns es ti nd){r m:Nat}(J:r<R)(H:m<Ns r)(z:(Ts r m).kind=0):Y4 es r<=Tj es Ts r m/\Tj es Ts r m<Y4 es (r+1):=by
 have a:=(h.tree J).c;have:=Rg z H;unfold Tj;simp only[Y4];omega
def Pw(h:Gm R Ts Ns es ti nd){p b:Nat}(H:p<Y4 es R)(z:b<256):AK Ts ti nd p b=XV es R p b:=by
 let⟨h1,h2,h3,c⟩:=h.p p H;have a:=h.ixlt h1 h2 h3;unfold Tj at a;rw[<-c]at a;rw[Sb es R (ti p) p b h1 a.1 a.2];unfold AK;rw[(h.tree h1).h _ b h2 h3 z];have:=Rx.has_add (es (ti p)) 0 (YA (Ts (ti p)) (nd p)) b (Y4 es (ti p));rw[Zn,ZP (YA _ _),<-c]at this;exact this.symm
def Fa(h:Gm R Ts Ns es ti nd){p q:Nat}(H:p<Y4 es R)(_hq:q<Y4 es R+R)(J:Y4 es R<=96):Am es Ts Ns ti nd (Y4 es R) p q=U0 es R p (Dp (Y4 es R) q):=by
 let⟨h1,h2,h3,d⟩:=h.p p H;let⟨r,z⟩:=nam (ti p);obtain⟨n,x⟩:∃n,n=nd p:=⟨_,rfl⟩;unfold Am;rw[<-z]at h1 h2 h3 d ⊢;rw[<-x]at h2 h3 d ⊢;have j:=h.ixlt h1 h2 h3;unfold Tj at j;rw[<-d]at j;have i:=h.tree h1;have A:Y4 es (r+1)<=Y4 es R:=X7 es h1;rw[Uv es R r p _ h1 j.1 j.2];have a:∀y,(es r).fol (Y4 es r) p (y+Y4 es r)=(es r).fol 0 (YA (Ts r) n) y:=λy=>by
  have:=Rx.fol_add (es r) 0 (YA (Ts r) n) y (Y4 es r);rw[Zn,ZP (YA _ _),<-d]at this;exact this
 have f:(es r).lst (Y4 es r) p=(es r).lst 0 (YA (Ts r) n):=by
  have:=Rx.lst_add (es r) 0 (YA (Ts r) n) (Y4 es r);rw[Zn,ZP (YA _ _),<-d]at this;exact this
 have t:Y4 es (r+1)=Y4 es r+(es r).sz:=rfl;unfold QT Dp;by_cases g:q<Y4 es R
 .rw[dF g,show decide (q=Y4 es R+r)=false by simp;omega,show decide (q=96+r)=false by simp;omega];simp only[dy,dw];rw[eA,VD];constructor
  .rintro ⟨m,k,m2,l,o⟩;rw[i.b n m h2 h3 m2]at l;have:=a (YA (Ts r) m);unfold Tj at o;rw[o,ZP (Y4 es r),this];exact l
  intro s;let⟨C,D,v,E⟩:=Rx.fol_rng _ _ _ _ s;let⟨m,k,m2,l⟩:=Bj (Ts r) (Ns r) (q-Y4 es r) (by rw[i.c];omega);refine⟨m,k,m2,?_,by unfold Tj;omega⟩;rw[i.b n m h2 h3 m2,l,<-a (q-Y4 es r),gF v];exact s
 rw[dG g];have B:Tw (Ts r) (Ns r) (Tj es Ts r) (λm=>Me (Ts r) (Ns r) n (some m)) q=false:=by
  rw[Bool.eq_false_iff];intro w;let⟨m,k,m2,_,o⟩:=VD.1 w;have:=(h.ixlt h1 k m2).2;omega
 have u:(es r).fol (Y4 es r) p (96+(q-Y4 es R))=false:=Rx.fol_lt Qo;rw[B,u,i.b0 n h2 h3,f,dx,dx];congr 1;by_cases e:q=Y4 es R+r
 .simp[e]
 rw[show decide (q=Y4 es R+r)=false by simp[e],show decide (96+(q-Y4 es R)=96+r)=false by simp;omega]
def Dn(es:Nat->Rx)(Ts:Nat->Nat->Nd)(Ns:Nat->Nat)(P R q:Nat):Bool:=(List.range R).any λr=>Tw (Ts r) (Ns r) (Tj es Ts r) (UF (Ts r) (Ns r-1)) q || (decide (q=P+r)&&Wj (Ts r) (Ns r-1))
def yf(h:Gm R Ts Ns es ti nd){q:Nat}(_hq:q<Y4 es R+R)(z:Y4 es R<=96):Dn es Ts Ns (Y4 es R) R q=X6 es R (Dp (Y4 es R) q):=by
 have b:∀r y,(es r).fst (Y4 es r) (y+Y4 es r)=(es r).fst 0 y:=λr y=>by
  have:=Rx.fst_add (es r) 0 y (Y4 es r);rw[Zn]at this;exact this
 unfold Dp;rw[eA];unfold Dn;simp only[fY,ZI,dp,ZS,eB];by_cases d:q<Y4 es R
 .rw[dF d,VO es R q Qo];constructor
  .rintro ⟨r,a,j|⟨p,_⟩⟩
   .let⟨m,i,m2,e,k⟩:=VD.1 j;rw[(h.tree a).f m m2]at e;refine⟨r,a,?_⟩;unfold Tj at k;rw[k,ZP,b];exact e
   omega
  rintro ⟨r,a,l⟩;let⟨o,s⟩:=Rx.fst_rng _ _ _ l;let⟨m,i,m2,e⟩:=Bj (Ts r) (Ns r) (q-Y4 es r) (by rw[(h.tree a).c];omega);refine⟨r,a,Or.inl (VD.2 ⟨m,i,m2,?_,by unfold Tj;omega⟩)⟩;rw[(h.tree a).f m m2,e,<-b,gF o];exact l
 rw[dG d,Sa];simp only[ZS,eB];constructor
 .rintro ⟨r,a,j|⟨p,g⟩⟩
  .let⟨m,i,m2,e,k⟩:=VD.1 j;have:=(h.ixlt a i m2).2;have:=X7 es (show r+1<=R from a);omega
  rw[(h.tree a).n]at g;have:q-Y4 es R=r:=Qo
  rw[this];exact⟨a,g⟩
 rintro ⟨a,g⟩;exact⟨q-Y4 es R,a,Or.inr ⟨Qo,by rw[(h.tree a).n];exact g⟩⟩
open Go.RowKit
structure SF (sb:Nat) (w w':World):Prop where
 b:Below sb w w'
 k:∀k,k<w.heap.size->k≠sb->w'.heap[k]?=w.heap[k]?
def SF.of(z:sb<=w.heap.size)(h:Bl w w'):SF sb w w':=⟨h.mono z,λk a _=>h.block k a⟩
def SF.trans(a:SF sb w w1)(b:SF sb w1 w2):SF sb w w2:=
 ⟨a.b.trans b.b,λk d c=>by rw[b.k k (by have:=a.b.size;omega) c,a.k k d c]⟩
def SF.set(h:SF sb w w')(q:Nat)(u:Value):SF sb w (w'.setCell (a_ sb q) u):=
 ⟨h.b.setCell (p:=(a_ sb q)) (Zg _) u,λk c a=>by
  rw[Zq w' (a_ sb q) _ k (λe=>a e)];exact h.k k c a⟩
def yr(es:Nat->Rx)(Ts:Nat->Nat->Nd)(r m:Nat):Int:=if (Ts r m).kind=0 then (Tj es Ts r m:Int) else 0
structure GX (X:Nat->Prop) (gb P R:Nat) (tr ad cp:Nat->Nat) (ms:Nat->Pl) (Ts:Nat->Nat->Nd) (Ns:Nat->Nat) (es:Nat->Rx) (w:World):Prop where
 s:∀k,X k->k<w.heap.size
 t:∀w',Wk X w w'->w.heap.size<=w'.heap.size->∃a c,w'.cell? ⟨gb,0,none⟩=some (.slice a R c)/\∀r,r<R->∃b o,a=some ⟨b,o,none⟩/\w'.cell? ⟨b,o+r,none⟩=some (.pointer (some ⟨tr r,0,none⟩))/\AJ (tr r) (Ts r) (Ns r) (ad r) (cp r) (ms r) w'
 p:∀w',Wk X w w'->w.heap.size<=w'.heap.size->∃a c,w'.cell? ⟨gb,1,none⟩=some (.slice a P c)
 i:∀w',Wk X w w'->w.heap.size<=w'.heap.size->∃a c,w'.cell? ⟨gb,3,none⟩=some (.slice a R c)/\∀r,r<R->∃b o ra rc,a=some ⟨b,o,none⟩/\w'.cell? ⟨b,o+r,none⟩=some (.slice ra (Ns r) rc)/\IL ra (yr es Ts r) (Ns r) w'
variable {ms:Nat->Pl}{tr:Nat->Nat}
def GX.keep{ad:Nat->Nat}(h:GX X gb P R tr ad cp ms Ts Ns es w)(ha:Wk X w w')(hs:w.heap.size<=w'.heap.size):GX X gb P R tr ad cp ms Ts Ns es w':=
 ⟨λk a=>by have:=h.s k a;omega,λw2 h2 h3=>h.t w2 (ha.trans h2) Qo,λw2 h2 h3=>h.p w2 (ha.trans h2) Qo,λw2 h2 h3=>h.i w2 (ha.trans h2) Qo⟩
def GX.below{ad:Nat->Nat}(h:GX X gb P R tr ad cp ms Ts Ns es w)(z:Bl w w'):GX X gb P R tr ad cp ms Ts Ns es w':=
 h.keep (λk a=>z.block k (h.s k a)) z.size
def JZ(T:Nat->Nd)(N:Nat)(ix:Nat->Nat)(h k:N_)(q:Nat):(Tw T N ix h q || Tw T N ix k q)=Tw T N ix (λm=>h m || k m) q:=by
 rw[eA,dp,VD,VD,VD];constructor
 .rintro (⟨m,a,b,c,d⟩|⟨m,a,b,c,d⟩)
  .exact⟨m,a,b,by simp[c],d⟩
  exact⟨m,a,b,by simp[c],d⟩
 rintro ⟨m,a,b,c,d⟩;rcases (by simpa using c:h m=true\/k m=true)with c|c
 .exact Or.inl ⟨m,a,b,c,d⟩
 exact Or.inr ⟨m,a,b,c,d⟩
def Xy{h k:Nat->Bool}(e:∀m,h m=k m)(q:Nat):Tw T N ix h q=Tw T N ix k q:=by
 rw[show h=k from funext e]
def MW(q:Nat):Tw T N ix (λ_=>false) q=false:=by
 rw[Bool.eq_false_iff];intro h;let⟨m,_,_,c,_⟩:=VD.1 h;cases c
def PY(row:Bool)(b:Nat->Nat->Bool)(nl:Nat->Bool)(ks:List Nat)(m:Nat):Bool:=if row then U7 (λk=>b k m) nl ks else ks.any (λk=>b k m)
def Fd(row:Bool)(b:Nat->N_)(nl:N_)(m:Nat):PY row b nl [] m=false:=by unfold PY;cases row<;>rfl
def IE{row:Bool}{b:Nat->N_}(h:row=true->ks.all nl=true)(k m:Nat):PY row b nl (ks++[k]) m=(PY row b nl ks m || b k m):=by
 unfold PY;cases row
 .simp
 simp only[dB,SI,U7,h rfl,dL,dE,dw]
def IF{b:Nat->N_}(h:(ks.take i).all nl=false)(m:Nat):PY true b nl ks m=PY true b nl (ks.take i) m:=by
 unfold PY;have:=SI (λk=>b k m) nl (ks.take i) (ks.drop i);rw[eD]at this;simp only[dB];rw[this,h];simp
def VZ{f g:N_}(h:∀q,f q=g q):bl f n=bl g n:=YW (λq _=>h q)
def GJ{f:N_}(h:TC sb (bl f n) w){j:Nat}(z:j<n):TC sb (bl (λq=>f q || decide (q=j)) n) (w.setCell (a_ sb j) (.bool true)):=by
 have h1:=h.set j (by rw[Y9];exact z) (.bool true);have e:(bl f n).set j (.bool true)=bl (λq=>f q || decide (q=j)) n:=by
  refine fG (λi=>?_);by_cases a:i<n
  .rw[YO _ a];by_cases e:i=j
   .subst e;rw[fx (by rw[Y9];exact a)];simp
   rw[fA (λx=>e x.symm),YO _ a];simp[e]
  rw[ZB (by simp[Y9];omega),ZB (by rw[Y9];omega)]
 rw[e]at h1;exact h1
def Ws(sb n:Nat)(f g:Nat->Bool)(w:World)(e:Ending)(w':World):Prop:=e=.returned (.tuple #[])/\TC sb (bl (λq=>f q || g q) n) w'/\SF sb w w'
def Rc(X:Nat->Prop)(gb R:Nat)(tr ad cp:Nat->Nat)(ms:Nat->Pl)(Ts:Nat->Nat->Nd)(Ns:Nat->Nat)(es:Nat->Rx)(ti nd:Nat->Nat)(bf:Gm R Ts Ns es ti nd)(hR:R<=1000)(hP:Y4 es R<=1000)(bi:∀r,r<R->Ns r<=20000)(r:Nat)(hr:r<R)(sb sc:Nat)(bj:¬X sb):
  ∀(fu n:Nat) (f:N_) (w:World),n<fu->n<Ns r->GX X gb (Y4 es R) R tr ad cp ms Ts Ns es w->TC sb (bl f (Y4 es R+R)) w->Cp 114 #[pT gb,I6 r,I6 n,sL sb (Y4 es R+R) sc] w (Ws sb (Y4 es R+R) f (Tw (Ts r) (Ns r) (Tj es Ts r) (UF (Ts r) n)) w)
 |0,n,f,w,W,_,_,_=>Qo
 |fu+1,n,f,w,W,hn,hG,hS=>by
  have hz:=VU;have a:=(bf.t r hr).1;have U:=V4 a.w a.u;let⟨P,ac⟩:=nam (Y4 es R);have HI:Hid (∀(k:Nat) (f':N_) (w':World),k∈(Ts r n).kids->GX X gb P R tr ad cp ms Ts Ns es w'->TC sb (bl f' (P+R)) w'->Cp 114 #[pT gb,I6 r,I6 k,sL sb (P+R) sc] w' (Ws sb (P+R) f' (Tw (Ts r) (Ns r) (Tj es Ts r) (UF (Ts r) k)) w')):=λk f' w' z h1 h2=>by
   have aQ:=a.w n hn k z;rw[ac]at h1 h2 ⊢;exact Rc X gb R tr ad cp ms Ts Ns es ti nd bf hR hP bi r hr sb sc bj fu k f' w' Qo Qo h1 h2
  have K:Hid (∀(k:Nat) (w':World),k∈(Ts r n).kids->TR (tr r) (Ts r) (Ns r) w'->Cp 115 #[.pointer (some (a_ (tr r) 0)),I6 k] w' λe w''=>e=.returned (.bool (Wj (Ts r) k))/\Bl w' w''):=λk w' z h1=>by
   have aQ:=a.w n hn k z;exact U8 (tr r) (Ts r) (Ns r) (by have:=bi r hr;omega) a.w (λi hi=>(a.k i hi).1) (Wj (Ts r)) U.nl0 U.nl1 U.nl2 U.nl3 (k+1) k w' Qo Qo h1 (λi hi=>by have:=(a.k i hi).2;omega)
  have M:(Ts r n).kind=0->Tj es Ts r n<Y4 es R:=λh0=>by
   have h1:=(bf.ixlt hr hn h0).2;have h2:=X7 es (show r+1<=R from hr);omega
  rw[<-ac]at hG hS hP M ⊢;let⟨N,hN⟩:=nam (Ns r);have aM:=bi r hr;have g0:=λm=>U.bg0 n m hn
  have g1:=λm=>U.bg1 n m hn
  have g2:=λm=>U.bg2 n m hn
  let⟨d,hd⟩:=nam (Ts r n);have aR:=(a.k n hn).1;have aP:=(a.k n hn).2;have am:=hyd hG;have HS:=hyd hS;let⟨ta,tc,ct,aD⟩:=hG.t w (Wk.refl _ _) (Zg _);let⟨bd,be,et,aw,af⟩:=aD r hr;subst et;have c0:=af.c;let⟨rr,o,il,_⟩:=af.n n hn;have v:Hid (∀w',Wk X w w'->w.heap.size<=w'.heap.size->IL ((ms r).ka n) (λk=>(((Ts r n).kids.getD k 0:Nat):Int)) (Ts r n).kids.length w'/\TR (tr r) (Ts r) (Ns r) w'):=λw' h1 h2=>by
   let⟨_,_,_,h3⟩:=am.o.t w' h1 h2;let⟨_,_,_,_,h4⟩:=h3 r hr;exact⟨(h4.n n hn).2.2.1,h4.tr⟩
  have aF:=hyd hG.s;unfold LM at rr;let⟨vin,H⟩:=nam ((ms r).vin n);let⟨ka,ai⟩:=nam ((ms r).ka n);let⟨kc,az⟩:=nam ((ms r).kc n);rw[<-H,<-ai,<-az]at rr;rw[<-H]at o;rw[<-ai]at il v;let⟨nb,aA⟩:=nam (ad r);let⟨nc,aB⟩:=nam (cp r);let⟨tp,aC⟩:=nam (tr r);rw[<-aA]at rr c0;rw[<-aB]at c0;rw[<-aC]at c0 aw K v;let⟨ia,ic,ci,ax⟩:=hG.i w (Wk.refl _ _) (Zg _);let⟨ib,io,ra,rc,ei,L,ay⟩:=ax r hr;subst ei;let⟨ix,j⟩:=nam (Tj es Ts r n);have ah:d.kind=0->∃xb Z,ra=some (a_ xb Z)/\w.cell? (a_ xb (Z+n))=some (I6 (ix:Int)):=λh0=>by
   let⟨xb,Z,e1,e2⟩:=ay n hn;refine⟨xb,Z,e1,?_⟩;rw[e2];unfold yr;rw[dF (by rw[<-hd];exact h0),j]
  rw[<-hd]at rr il HI K v g0 g1 g2 aR aP M;rw[<-hN]at c0 L hn aM v K;have a9:=hS;have a8:(r:Int)<R:=Qo
  have a3:(R:Int)<=1000:=Qo
  have a2:(P:Int)<=1000:=Qo
  have a7:(n:Int)<N:=Qo
  have a1:(N:Int)<=20000:=Qo
  let⟨m,hm⟩:=nam d.kids.length;have a6:(m:Int)<=1000:=Qo
  have Hm:=hyd hm;have G:sb<w.heap.size:=by
   have:=(hS 0 (.bool (f 0)) (YO _ Qo)).1;exact Ze w _ this
  have Hg:=hyd3 g0 g1 g2;have aX:Hid (∀w',Bl w w'->IL ka (λk=>((d.kids.getD k 0:Nat):Int)) d.kids.length w'):=λw' h=>il.below h
  have Hd:Hid (d=Ts r n/\N=Ns r/\ix=Tj es Ts r n/\n<Ns r):=⟨hd,hN,j,Qo⟩;have aH:Hid (d.kind=0->ix<P):=by rw[j];exact M
  clear hG hS bf a U aD af ax ay g0 g1 g2 il bi hd j ac M hN H ai az aA aB aC;go_enter func114,ntmps114;go_wp2_with (first|(with_reducible apply gld 118;refine Ya.out ?_));refine⟨?_⟩;apply Zb rfl 118 _ rfl nb (n*5) rfl (WJ d vin ka kc) _ rr u_k rfl WW
  (try simp only[psm])
  go_wp2_with (first|(with_reducible apply gst 118;refine Ya.out ?_));refine⟨?_⟩;let⟨w2,O⟩:=nam ((w.alloc (.cells RN.toArray 118)).setCells w.heap.size 0 (WJ d vin ka kc));have ag:=Xa w RN (WJ d vin ka kc) 118 rfl;have C:TC w.heap.size (WJ d vin ka kc) w2:=by rw[O];exact Tt ag.2.2.2
  rw[<-O]at ag;let⟨Q,_,s2,t2⟩:=ag;refine Za rfl 118 _ _ rfl w.heap.size 0 (WJ d vin ka kc).toArray rfl rfl t2 WW (by simp only[WJ,gy,dD,o];rfl) ?_;rw[Zc];have Y:w2=(w.alloc (.cells #[I6 0,sN,sN,I6 0,I6 0] 118)).setCells w.heap.size 0 (WJ d vin ka kc):=O;rw[<-Y];have ck:=(C 0 _ rfl).1;clear O Y t2 rr;by_cases e0:d.kind=0
  .have q0:((d.kind:Int)==0)=true:=by simp[e0]
   let⟨xb,Z,ex,cx⟩:=ah e0;subst ex;have aV:=aH.o e0;have aY:w2.cell? (a_ gb 3)=some (.slice (some (a_ ib io)) R ic):=by rw[Q.cell (p:=(a_ gb 3)) (Ze w _ ci)];exact ci
   have aU:w2.cell? (a_ ib (io+r))=some (.slice (some (a_ xb Z)) N rc):=by rw[Q.cell (p:=(a_ ib (io+r))) (Ze w _ L)];exact L
   have a0:w2.cell? (a_ xb (Z+n))=some (I6 (ix:Int)):=by rw[Q.cell (p:=(a_ xb (Z+n))) (Ze w _ cx)];exact cx
   have ae:=HS.o.block (Q.block sb G);let⟨k1,k2⟩:=ae ix _ (YO _ Qo);have aO:(ix:Int)<P+(R:Int):=Qo
   have HR:Hid (Ws sb (P+R) f (Tw (Ts r) (Ns r) (Tj es Ts r) (UF (Ts r) n)) w (.returned (.tuple #[])) (w2.setCell (a_ sb ix) (.bool true))):=by
    refine⟨rfl,?_,(SF.of Qo Q).set _ _⟩;have h1:=GJ ae (show ix<P+R by omega);rw[VZ (g:=λq=>f q || decide (q=ix)) (λq=>?_)]
    .exact h1
    congr 1;rw[eA,VD];simp only[eB];let⟨d1,d2,d3,d4⟩:=Hd.o;constructor
    .rintro ⟨m,m1,m2,m3,m4⟩;rw[Hg.o.1 m e0]at m3;rw[m4,d3,(dq.1 m3)]
    intro e;exact⟨n,d4,by rw[<-d1];exact e0,by rw[Hg.o.1 n e0];simp,by rw[e,d3]⟩
   clear C ah ae;go_wp2
   ((try simp only[Exit.inBlock,Exit.then]);refine Zr (results_none rfl _ _ _) rfl ?_)
   exact HR.o
  have q0:((d.kind:Int)==0)=false:=Qp
  let⟨row,l⟩:=nam (decide (d.kind=1));have q1:((d.kind:Int)==1)=row:=by
   rw[l];by_cases e:d.kind=1
   .simp[e]
   have:¬(d.kind:Int)=1:=Qo
   simp[e,this]
  have ao:Hid (∀y,UF (Ts r) n y=PY row (UF (Ts r)) (Wj (Ts r)) d.kids y):=λy=>by
   unfold PY;by_cases e:d.kind=1
   .rw[Hg.o.2.1 y e,l];simp[e]
   rw[Hg.o.2.2 y Qo,l];simp[e]
  have J:Hid (SF sb w w2/\TC w.heap.size (WJ d vin ka kc) w2/\TC sb (bl f (P+R)) w2):=⟨SF.of Qo Q,C,HS.o.block (Q.block sb G)⟩;have cK:=(C 2 _ rfl).1;rw[<-Hm.o]at cK;have B:=hyd G;have ab:Hid (∀w',SF sb w w'->IL ka (λk=>((d.kids.getD k 0:Nat):Int)) d.kids.length w'/\TR tp (Ts r) N w'/\GX X gb P R tr ad cp ms Ts Ns es w'):=λw' W=>by
   have hA:Wk X w w':=λk z=>W.k k (aF k z) (λe=>bj (e▸z))
   exact⟨(v w' hA W.b.size).1,(v w' hA W.b.size).2,am.o.keep hA W.b.size⟩
  clear C ah l Q ci L ct aw c0;have A:Hid (row=true->((d.kids.take 0).all (Wj (Ts r)))=true):=λ_=>Qs
  go_wp2
  go_loopw [10] (λx w'=>∃i:Nat,i<=m/\x=I6 i/\Hid (row=true->((d.kids.take i).all (Wj (Ts r)))=true)/\SF sb w w'/\TC w.heap.size (WJ d vin ka kc) w'/\TC sb (bl (λq=>f q || Tw (Ts r) (Ns r) (Tj es Ts r) (PY row (UF (Ts r)) (Wj (Ts r)) (d.kids.take i)) q) (P+R)) w'/\w.heap.size+1<=w'.heap.size) (λx _=>m-(intOf x).toNat)
  .refine⟨0,Qo,rfl,A,J.o.1,J.o.2.1,?_,s2⟩;rw[VZ (g:=f) (λq=>?_)]
   .exact J.o.2.2
   rw[Xy (k:=λ_=>false) (λy=>by rw[f7,Fd]),MW,dw]
  clear ck cK J s2 A;obtain⟨i,hi,rfl,ap,F,C,TS,sz⟩:=hrel;have ck:=(C 0 _ rfl).1;have cK:=(C 2 _ rfl).1;rw[<-Hm.o]at cK;by_cases a5:i<m
  .have aW:(i:Int)<m:=Qo
   obtain⟨k,z⟩:∃k,d.kids[i]?=some k:=⟨d.kids[i]'(by have:=Hm.o;omega),Zd _⟩;let⟨il,aT,gx⟩:=ab.o wr F;let⟨g,og,eg,cg⟩:=il i (by have:=Hm.o;omega);subst eg;simp only[Zf,z,fX]at cg;have E:=dI z;have ak:d.kids.take (i+1)=d.kids.take i++[k]:=by rw[fW,z];rfl
   have al:=hyd (HI k _ wr E gx TS);have aq:Hid (∀q,((f q || Tw (Ts r) (Ns r) (Tj es Ts r) (PY row (UF (Ts r)) (Wj (Ts r)) (d.kids.take i)) q) || Tw (Ts r) (Ns r) (Tj es Ts r) (UF (Ts r) k) q)=(f q || Tw (Ts r) (Ns r) (Tj es Ts r) (PY row (UF (Ts r)) (Wj (Ts r)) (d.kids.take (i+1))) q)):=λq=>by
    rw[dC,JZ,ak,Xy (λy=>(IE ap.o k y).symm)]
   have HF:=hyd2 F C;have aa:Hid (∀w',TR tp (Ts r) N w'->Cp 115 #[pT tp,I6 k] w' λe w''=>e=.returned (.bool (Wj (Ts r) k))/\Bl w' w''):=λw' h1=>K.o k w' E h1
   have aI:=hyd ak;let⟨V,hV⟩:=nam (Wj (Ts r) k);rw[<-hV]at aa;have HV:=hyd hV;have aG:Hid (∀w',SF sb w w'->w'.cell? (a_ g (og+i))=some (I6 (k:Int))):=λw' W=>by
    let⟨aS,_,_⟩:=ab.o w' W;let⟨g',bb,aL,av⟩:=aS i (by have:=Hm.o;omega);cases aL;simp only[Zf,z,fX]at av;exact av
   clear F C TS il aT gx z E ak hV;go_wp2_with fail;apply al.o.mono;rintro e w3 ⟨rfl,D,F3⟩;have I:=HF.o.1.trans F3;have T3:TC w.heap.size (WJ d vin (some (a_ g og)) kc) w3:=HF.o.2.block (F3.k _ Qo (by have:=B.o;omega));have bc:w.heap.size+1<=w3.heap.size:=by have:=F3.b.size;omega
   have aK:=(T3 0 _ rfl).1;have au:=(T3 2 _ rfl).1;rw[<-Hm.o]at au;have aJ:=aG.o w3 I;have an:=hyd (aa.o w3 (ab.o w3 I).2.1);have H3:Hid (SF sb w w3/\TC w.heap.size (WJ d vin (some (a_ g og)) kc) w3/\TC sb (bl (λq=>f q || Tw (Ts r) (Ns r) (Tj es Ts r) (PY row (UF (Ts r)) (Wj (Ts r)) (d.kids.take (i+1))) q) (P+R)) w3):=⟨I,T3,by rw[<-VZ aq.o];exact D⟩;clear al F3 D T3 ck cK cg aa I HF;go_wp2_with fail;apply an.o.mono;rintro e w4 ⟨rfl,B4⟩;let⟨F3,T3,D⟩:=H3.o;have F4:SF sb w w4:=F3.trans (SF.of (by have:=B.o;omega) B4);have T4:TC w.heap.size (WJ d vin (some (a_ g og)) kc) w4:=T3.block (B4.block _ Qo);have ar:TC sb (bl (λq=>f q || Tw (Ts r) (Ns r) (Tj es Ts r) (PY row (UF (Ts r)) (Wj (Ts r)) (d.kids.take (i+1))) q) (P+R)) w4:=D.block (B4.block _ (by have:=B.o;omega));have aZ:=(T4 0 _ rfl).1;have aE:w.heap.size+1<=w4.heap.size:=by have:=B4.size;omega
   have S:=hyd3 F4 T4 ar;have T:Hid ((d.kids.take (i+1)).all (Wj (Ts r))=((d.kids.take i).all (Wj (Ts r))&&V)):=by
    show _=_;rw[aI.o,HV.o];simp
   clear F3 T3 D F4 T4 ar H3 an aK au aJ B4;cases row
   .have aj:Hid (false=true->((d.kids.take (i+1)).all (Wj (Ts r)))=true):=λh=>by cases h
    cases V<;>(go_wp2;go_roundw;(case rel=>exact⟨i+1,Qo,Qg,aj,S.o.1,S.o.2.1,S.o.2.2,aE⟩);(case measure=>simp[intOf];omega))
   cases V
   .have HR:Hid (Ws sb (P+R) f (Tw (Ts r) (Ns r) (Tj es Ts r) (UF (Ts r) n)) w (.returned (.tuple #[])) w4):=by
     refine⟨rfl,?_,S.o.1⟩;rw[VZ (g:=λq=>f q || Tw (Ts r) (Ns r) (Tj es Ts r) (PY true (UF (Ts r)) (Wj (Ts r)) (d.kids.take (i+1))) q) (λq=>?_)]
     .exact S.o.2.2
     congr 1;refine Xy (λy=>?_) q;rw[ao.o y];exact IF (by rw[T.o,dE]) y
    go_wp2
    ((try simp only[Exit.inBlock,Exit.then]);refine Zr (results_none rfl _ _ _) rfl ?_)
    exact HR.o
   have aj:Hid (true=true->((d.kids.take (i+1)).all (Wj (Ts r)))=true):=λ_=>by rw[T.o,ap.o rfl];rfl
   go_wp2;go_roundw
   .exact⟨i+1,Qo,Qg,aj,S.o.1,S.o.2.1,S.o.2.2,aE⟩
   simp[intOf];omega
  have a4:¬(i:Int)<m:=Qo
  have aN:i=m:=Qo
  subst aN;have ht:d.kids.take i=d.kids:=by rw[Hm.o,gp]
  rw[ht]at TS;have HR:Hid (Ws sb (P+R) f (Tw (Ts r) (Ns r) (Tj es Ts r) (UF (Ts r) n)) w (.returned (.tuple #[])) wr):=by
   refine⟨rfl,?_,F⟩;rw[VZ (λq=>by rw[Xy (λy=>ao.o y)])];exact TS
  clear TS C ht F;go_wp2;go_end0;exact HR.o
def KW(z:FC T N){n u:Nat}(H:n<N)(h:(T n).up=(u:Int))(h1:(T u).kind≠1)(h3:(T u).kind≠3)(J:(T u).kind≠4)(q:Option Nat):Me T N n q=Me T N u q:=by
 have a:=z n H;have e:EZ T (N-n-1) u q=Me T N u q:=Bb z q N u _ _ Qo Qo Qo Qo;unfold Me;rw[show N-n=(N-n-1)+1 by omega];simp only[EZ];rw[g_,h,ZE,dG h1,g_,e];rfl
section
variable {T:Nat->Nd} {N:Nat} {ix:Nat->Nat} {P r n u:Nat}
def Bd(J:Wf T N)(H:FC T N)(z:n<N)(h:(T n).up<0)(q:Nat):QT T N ix P r n q=decide (q=P+r):=by
 have a:=V4 J H;unfold QT;rw[Xy (k:=λ_=>false) (λm=>by rw[a.bhR n _ z h];rfl),MW,a.bhR n _ z h];simp
def zH(J:Wf T N)(H:FC T N)(z:n<N)(h:(T n).up=(u:Int))(h1:(T u).kind=1)(ha:((T u).kids.drop ((T n).at_+1)).all (Wj T)=true)(q:Nat):QT T N ix P r n q=(Tw T N ix (PY true (UF T) (Wj T) ((T u).kids.drop ((T n).at_+1))) q || QT T N ix P r u q):=by
 have a:=V4 J H;unfold QT;rw[<-dC,JZ,Xy (λm=>by rw[a.bh1 n u _ z h h1,ha])];congr 1;rw[a.bh1 n u none z h h1,ha];simp
def JK(J:Wf T N)(H:FC T N)(z:n<N)(h:(T n).up=(u:Int))(h1:(T u).kind=1)(ha:((T u).kids.drop ((T n).at_+1)).all (Wj T)=false)(q:Nat):QT T N ix P r n q=Tw T N ix (PY true (UF T) (Wj T) ((T u).kids.drop ((T n).at_+1))) q:=by
 have a:=V4 J H;unfold QT;rw[Xy (k:=PY true (UF T) (Wj T) ((T u).kids.drop ((T n).at_+1))) (λm=>by rw[a.bh1 n u _ z h h1,ha];simp[PY]),a.bh1 n u none z h h1,ha];simp
def Bc(J:Wf T N)(H:FC T N)(z:n<N)(h:(T n).up=(u:Int))(h1:(T u).kind=3\/(T u).kind=4)(q:Nat):QT T N ix P r n q=(Tw T N ix (UF T n) q || QT T N ix P r u q):=by
 have a:=V4 J H;unfold QT;rw[<-dC,JZ,Xy (λm=>by rw[a.bh3 n u _ z h h1])];congr 1;rw[a.bh3 n u none z h h1];simp
def DD(J:FC T N)(H:n<N)(h:(T n).up=(u:Int))(h1:(T u).kind≠1)(h3:(T u).kind≠3)(z:(T u).kind≠4)(q:Nat):QT T N ix P r n q=QT T N ix P r u q:=by
 unfold QT;rw[Xy (λm=>KW J H h h1 h3 z _),KW J H h h1 h3 z none]
end
def Mx(X:Nat->Prop)(gb R:Nat)(tr ad cp:Nat->Nat)(ms:Nat->Pl)(Ts:Nat->Nat->Nd)(Ns:Nat->Nat)(es:Nat->Rx)(ti nd:Nat->Nat)(bv:Gm R Ts Ns es ti nd)(hR:R<=1000)(hP:Y4 es R<=1000)(bu:∀r,r<R->Ns r<=20000)(r:Nat)(hr:r<R)(sb sc:Nat)(bw:¬X sb):
  ∀(fu n:Nat) (f:N_) (w:World),Ns r<fu+n->n<Ns r->GX X gb (Y4 es R) R tr ad cp ms Ts Ns es w->TC sb (bl f (Y4 es R+R)) w->Cp 53 #[pT gb,I6 r,I6 n,sL sb (Y4 es R+R) sc] w (Ws sb (Y4 es R+R) f (QT (Ts r) (Ns r) (Tj es Ts r) (Y4 es R) r n) w)
 |0,n,f,w,hf,_,_,_=>Qo
 |fu+1,n,f,w,hf,hn,hG,hS=>by
  have hz:=VU;have y:=(bv.t r hr).1;have hE:=V4 y.w y.u;let⟨P,O⟩:=nam (Y4 es R);have HI:Hid (∀(k:Nat) (f':N_) (w':World),n<k->k<Ns r->GX X gb P R tr ad cp ms Ts Ns es w'->TC sb (bl f' (P+R)) w'->Cp 53 #[pT gb,I6 r,I6 k,sL sb (P+R) sc] w' (Ws sb (P+R) f' (QT (Ts r) (Ns r) (Tj es Ts r) P r k) w')):=λk f' w' bf a1 h1 h2=>by
   rw[O]at h1 h2 ⊢;exact Mx X gb R tr ad cp ms Ts Ns es ti nd bv hR hP bu r hr sb sc bw fu k f' w' Qo a1 h1 h2
  have aj:Hid (∀(k:Nat) (f':N_) (w':World),k<Ns r->GX X gb P R tr ad cp ms Ts Ns es w'->TC sb (bl f' (P+R)) w'->Cp 114 #[pT gb,I6 r,I6 k,sL sb (P+R) sc] w' (Ws sb (P+R) f' (Tw (Ts r) (Ns r) (Tj es Ts r) (UF (Ts r) k)) w')):=λk f' w' E h1 h2=>by
   rw[O]at h1 h2 ⊢;exact Rc X gb R tr ad cp ms Ts Ns es ti nd bv hR hP bu r hr sb sc bw (k+1) k f' w' Qo E h1 h2
  have ay:Hid (∀(k:Nat) (w':World),k<Ns r->TR (tr r) (Ts r) (Ns r) w'->Cp 115 #[.pointer (some (a_ (tr r) 0)),I6 k] w' λe w''=>e=.returned (.bool (Wj (Ts r) k))/\Bl w' w''):=λk w' E h1=>by
   exact U8 (tr r) (Ts r) (Ns r) (by have:=bu r hr;omega) y.w (λi hi=>(y.k i hi).1) (Wj (Ts r)) hE.nl0 hE.nl1 hE.nl2 hE.nl3 (k+1) k w' Qo E h1 (λi hi=>by have:=(y.k i hi).2;omega)
  have aZ:=bu r hr;have H:=y.u n hn;have ae:=y.a n hn;have aQ:Hid (GX X gb P R tr ad cp ms Ts Ns es w):=by rw[O];exact hG
  have al:Hid (∀w',SF sb w w'->AJ (tr r) (Ts r) (Ns r) (ad r) (cp r) (ms r) w'/\GX X gb P R tr ad cp ms Ts Ns es w'):=λw' hf=>by
   have hA:Wk X w w':=λk E=>hf.k k (hG.s k E) (λe=>bw (e▸E))
   let⟨_,_,_,h3⟩:=hG.t w' hA hf.b.size;let⟨_,_,_,_,h4⟩:=h3 r hr;exact⟨h4,aQ.o.keep hA hf.b.size⟩
  let⟨ta,tc,ct,aN⟩:=hG.t w (Wk.refl _ _) (Zg _);let⟨br,bt,et,aF,an⟩:=aN r hr;subst et;let⟨pa,pc,cP⟩:=hG.p w (Wk.refl _ _) (Zg _);have c0:=an.c;have rn:=(an.n n hn).1;have cU:=rn 3 _ rfl;have cA:=rn 4 _ rfl;rw[<-O]at hG hS hP cP ⊢;have ah:sb<w.heap.size:=by
   have:=(hS 0 (.bool (f 0)) (YO _ Qo)).1;exact Ze w _ this
  let⟨N,hN⟩:=nam (Ns r);let⟨nb,aK⟩:=nam (ad r);let⟨nc,aL⟩:=nam (cp r);let⟨tp,aM⟩:=nam (tr r);let⟨T,ao⟩:=nam (Ts r);let⟨mr,aJ⟩:=nam (ms r);let⟨ix,af⟩:=nam (Tj es Ts r);have h:Hid (Wf T N/\FC T N/\n<N/\∀i,i<N->(T i).kind<=4/\(T i).kids.length<=1000):=by rw[ao,hN];exact⟨y.w,y.u,hn,y.k⟩
  simp only[<-hN,<-ao,<-af,<-aM,<-aK,<-aL,<-aJ]at HI aj ay aZ H ae al aF c0 cU cA hn ⊢;have HS:=hyd hS;have bn:(r:Int)<R:=Qo
  have bd:(R:Int)<=1000:=Qo
  have bc:(P:Int)<=1000:=Qo
  have bm:(n:Int)<N:=Qo
  have bb:(N:Int)<=20000:=Qo
  have M:=hyd ah;clear hG bv y hE aN an bu O aK aL aM ao aJ af hN rn;by_cases G:(T n).up<0
  .have aO:(T n).up=-1:=Qo
   let⟨k1,k2⟩:=hS (P+r) _ (YO _ Qo);rw[aO]at cU;have hq:(P:Int)+(r:Int)<P+(R:Int):=Qo
   have HR:Hid (Ws sb (P+R) f (QT T N ix P r n) w (.returned (.tuple #[])) (w.setCell (a_ sb (P+r)) (.bool true))):=by
    refine⟨rfl,?_,(SF.of Qo (Zk _ _)).set _ _⟩;rw[VZ (λq=>by rw[Bd h.o.1 h.o.2.1 h.o.2.2.1 G])];exact GJ HS.o (show P+r<P+R by omega)
   clear hS aO H G;go_enter func53,ntmps53;go_wp2
   ((try simp only[Exit.inBlock,Exit.then]);refine Zr (results_none rfl _ _ _) rfl ?_)
   exact HR.o
  obtain⟨u,hu⟩:∃u:Nat,(T n).up=u:=⟨(T n).up.toNat,Qo⟩;rw[hu]at cU H;have a2:n<u:=Qo
  have Q:u<N:=Qo
  have a9:(u:Int)<N:=Qo
  have bo:¬(u:Int)<0:=Qo
  let⟨aP,_⟩:=al.o w (SF.of Qo (Zk _ _));let⟨rr,o,il,_⟩:=aP.n u Q;unfold LM at rr;let⟨d,hd⟩:=nam (T u);let⟨D,ap⟩:=nam ((T n).at_);let⟨vin,S⟩:=nam (mr.vin u);let⟨ka,ar⟩:=nam (mr.ka u);let⟨kc,aI⟩:=nam (mr.kc u);have K:Hid (∀w',SF sb w w'->IL ka (λk=>((d.kids.getD k 0:Nat):Int)) d.kids.length w'/\TR tp T N w'/\GX X gb P R tr ad cp ms Ts Ns es w'):=λw' hf=>by
   let⟨tm,gx⟩:=al.o w' hf;rw[ar,hd];exact⟨(tm.n u Q).2.2.1,tm.tr,gx⟩
  rw[<-hd,<-S,<-ar,<-aI]at rr;rw[<-S]at o;rw[<-ap]at cA ae;have au:=h.o.2.2.2 u Q;rw[<-hd]at au;let⟨m,hm⟩:=nam d.kids.length;have Hm:=hyd hm;have bj:(m:Int)<=1000:=Qo
  have a6:(D:Int)<=1000:=Qo
  have W:Hid ((T n).up=(u:Int)/\d=T u/\D=(T n).at_/\u<N/\∀k∈d.kids,k<N):=⟨hu,hd,ap,Q,λk E=>by
   rw[hd]at E;have:=h.o.1 u Q k E;omega⟩
  have a7:=au.1;clear hS hu hd ap S ar aI aP il G H au hm;go_enter func53,ntmps53;go_wp2_with (first|(with_reducible apply gld 118;refine Ya.out ?_));refine⟨?_⟩;apply Zb rfl 118 _ rfl nb (u*5) rfl (WJ d vin ka kc) _ rr u_k rfl WW
  (try simp only[psm])
  go_wp2_with (first|(with_reducible apply gst 118;refine Ya.out ?_));refine⟨?_⟩;let⟨w2,ac⟩:=nam ((w.alloc (.cells RN.toArray 118)).setCells w.heap.size 0 (WJ d vin ka kc));have aq:=Xa w RN (WJ d vin ka kc) 118 rfl;have Y:TC w.heap.size (WJ d vin ka kc) w2:=by rw[ac];exact Tt aq.2.2.2
  rw[<-ac]at aq;let⟨B2,_,s2,t2⟩:=aq;refine Za rfl 118 _ _ rfl w.heap.size 0 (WJ d vin ka kc).toArray rfl rfl t2 WW (by simp only[WJ,gy,dD,o];rfl) ?_;rw[Zc];have ai:w2=(w.alloc (.cells #[I6 0,sN,sN,I6 0,I6 0] 118)).setCells w.heap.size 0 (WJ d vin ka kc):=ac;rw[<-ai];have ck:=(Y 0 _ rfl).1;have cK:=(Y 2 _ rfl).1;rw[<-Hm.o]at cK;have aB:TC sb (bl f (P+R)) w2:=HS.o.block (B2.block sb ah);have F2:SF sb w w2:=SF.of Qo B2;have aV:w2.cell? (a_ nb (n*5+4))=some (I6 (D:Int)):=by rw[B2.cell (p:=(a_ nb (n*5+4))) (Ze w _ cA)];exact cA
  have aU:w2.cell? (a_ tp 0)=some (sL nb N nc):=by rw[B2.cell (p:=(a_ tp 0)) (Ze w _ c0)];exact c0
  have U:=hyd3 F2 Y aB;clear ac ai t2 rr Y aB F2 B2 c0 cA cU ct aF cP;have C:Hid (∀(g:N_) (w':World),SF sb w w'->TC sb (bl (λq=>f q || g q) (P+R)) w'->(∀q,QT T N ix P r n q=(g q || QT T N ix P r u q))->Cp 53 #[pT gb,I6 r,I6 u,sL sb (P+R) sc] w' (Ws sb (P+R) f (QT T N ix P r n) w)):=λg w' h1 h2 h3=>by
   apply(HI u _ w' a2 (W.o.2.2.2.1) (K w' h1).2.2 h2).mono;rintro e w'' ⟨h4,h5,h6⟩;refine⟨h4,?_,h1.trans h6⟩;rw[VZ (g:=λq=>(f q || g q) || QT T N ix P r u q) (λq=>by rw[h3 q,dC])];exact h5
  clear HI;by_cases e1:d.kind=1
  .have q1:((d.kind:Int)==1)=true:=by simp[e1]
   let⟨A,J⟩:=nam (d.kids.drop (D+1));have az:=hyd J;have am:Hid (A.all (Wj T)=false->∀q,QT T N ix P r n q=Tw T N ix (PY true (UF T) (Wj T) A) q):=λha q=>by
    let⟨u1,u2,u3,u4,_⟩:=W.o;have:=JK (ix:=ix) (P:=P) (r:=r) h.o.1 h.o.2.1 h.o.2.2.1 u1 (by rw[<-u2];exact e1) (by rw[<-u2,<-u3,<-J];exact ha) q;rw[<-u2,<-u3,<-J]at this;exact this
   have aS:Hid (A.all (Wj T)=true->∀q,QT T N ix P r n q=(Tw T N ix (PY true (UF T) (Wj T) A) q || QT T N ix P r u q)):=λha q=>by
    let⟨u1,u2,u3,u4,_⟩:=W.o;have:=zH (ix:=ix) (P:=P) (r:=r) h.o.1 h.o.2.1 h.o.2.2.1 u1 (by rw[<-u2];exact e1) (by rw[<-u2,<-u3,<-J];exact ha) q;rw[<-u2,<-u3,<-J]at this;exact this
   clear J e1;go_wp2
   go_loopw [11] (λx w'=>∃j:Nat,(j=0\/D+1+j<=m)/\x=I6 ((D+1+j:Nat):Int)/\Hid ((A.take j).all (Wj T)=true)/\SF sb w w'/\TC w.heap.size (WJ d vin ka kc) w'/\TC sb (bl (λq=>f q || Tw T N ix (PY true (UF T) (Wj T) (A.take j)) q) (P+R)) w'/\w.heap.size+1<=w'.heap.size) (λx _=>m-(intOf x).toNat)
   .refine⟨0,Or.inl rfl,Qg,by show _=_;simp,U.o.1,U.o.2.1,?_,s2⟩;rw[VZ (g:=f) (λq=>?_)]
    .exact U.o.2.2
    rw[Xy (k:=λ_=>false) (λmm=>by rw[f7,Fd]),MW,dw]
   clear ck cK U s2 aV aU;obtain⟨j,hj,rfl,aa,F,Y,TS,sz⟩:=hrel;have ck:=(Y 0 _ rfl).1;have cK:=(Y 2 _ rfl).1;rw[<-Hm.o]at cK;let⟨i,hi⟩:=nam (D+1+j);rw[<-hi]at hj ⊢;have Hi:=hyd hi;clear hi;by_cases bi:i<m
   .have a8:(i:Int)<m:=Qo
    obtain⟨k,E⟩:∃k,d.kids[i]?=some k:=⟨d.kids[i]'(by have:=Hm.o;omega),Zd _⟩;let⟨il,a5,gx⟩:=K.o wr F;let⟨g,og,eg,cg⟩:=il i (by have:=Hm.o;omega);subst eg;simp only[Zf,E,fX]at cg;have ag:=dI E;have aH:=W.o.2.2.2.2 k ag;have aG:A[j]?=some k:=by rw[az.o,ez,<-Hi.o];exact E
    have av:A.take (j+1)=A.take j++[k]:=by rw[fW,aG];rfl
    have aw:=hyd (aj k _ wr aH gx TS);have aA:Hid (∀q,((f q || Tw T N ix (PY true (UF T) (Wj T) (A.take j)) q) || Tw T N ix (UF T k) q)=(f q || Tw T N ix (PY true (UF T) (Wj T) (A.take (j+1))) q)):=λq=>by
     rw[dC,JZ,av,Xy (λmm=>(IE (λ_=>aa.o) k mm).symm)]
    have HF:=hyd2 F Y;have ak:Hid (∀w',TR tp T N w'->Cp 115 #[pT tp,I6 k] w' λe w''=>e=.returned (.bool (Wj T k))/\Bl w' w''):=λw' h1=>ay.o k w' aH h1
    have aT:=hyd av;let⟨V,hV⟩:=nam (Wj T k);rw[<-hV]at ak;have HV:=hyd hV;have aR:Hid (∀w',SF sb w w'->w'.cell? (a_ g (og+i))=some (I6 (k:Int))):=λw' hf=>by
     let⟨a3,_,_⟩:=K.o w' hf;let⟨g',bp,aY,aE⟩:=a3 i (by have:=Hm.o;omega);cases aY;simp only[Zf,E,fX]at aE;exact aE
    clear F Y TS il a5 gx E ag av hV aG;go_wp2_with fail;apply aw.o.mono;rintro e w3 ⟨rfl,v,I⟩;have z:=HF.o.1.trans I;have T3:TC w.heap.size (WJ d vin (some (a_ g og)) kc) w3:=HF.o.2.block (I.k _ Qo (by have:=M.o;omega));have bq:w.heap.size+1<=w3.heap.size:=by have:=I.b.size;omega
    have aX:=(T3 0 _ rfl).1;have aD:=(T3 2 _ rfl).1;rw[<-Hm.o]at aD;have aW:=aR.o w3 z;have ax:=hyd (ak.o w3 (K.o w3 z).2.1);have H3:Hid (SF sb w w3/\TC w.heap.size (WJ d vin (some (a_ g og)) kc) w3/\TC sb (bl (λq=>f q || Tw T N ix (PY true (UF T) (Wj T) (A.take (j+1))) q) (P+R)) w3):=⟨z,T3,by rw[<-VZ aA.o];exact v⟩;clear aw I v T3 ck cK cg ak z HF;go_wp2_with fail;apply ax.o.mono;rintro e w4 ⟨rfl,B4⟩;let⟨I,T3,v⟩:=H3.o;have F4:SF sb w w4:=I.trans (SF.of (by have:=M.o;omega) B4);have T4:TC w.heap.size (WJ d vin (some (a_ g og)) kc) w4:=T3.block (B4.block _ Qo);have aC:TC sb (bl (λq=>f q || Tw T N ix (PY true (UF T) (Wj T) (A.take (j+1))) q) (P+R)) w4:=v.block (B4.block _ (by have:=M.o;omega));have a4:w.heap.size+1<=w4.heap.size:=by have:=B4.size;omega
    have H4:=hyd3 F4 T4 aC;have L:Hid ((A.take (j+1)).all (Wj T)=V):=by
     show _=_;rw[aT.o,List.all_append,aa.o,HV.o];simp
    clear I T3 v F4 T4 aC H3 ax aX aD aW B4;cases V
    .have HR:Hid (Ws sb (P+R) f (QT T N ix P r n) w (.returned (.tuple #[])) w4):=by
      refine⟨rfl,?_,H4.o.1⟩;have a0:A.all (Wj T)=false:=by
       have h1:=L.o;have h2:A.all (Wj T)=((A.take (j+1)).all (Wj T)&&(A.drop (j+1)).all (Wj T)):=by rw[<-List.all_append,eD]
       rw[h2,h1];rfl
      rw[VZ (g:=λq=>f q || Tw T N ix (PY true (UF T) (Wj T) (A.take (j+1))) q) (λq=>?_)]
      .exact H4.o.2.2
      congr 1;rw[am.o a0 q];exact Xy (λmm=>IF L.o mm) q
     go_wp2
     ((try simp only[Exit.inBlock,Exit.then]);refine Zr (results_none rfl _ _ _) rfl ?_)
     exact HR.o
    go_wp2;go_roundw
    .exact⟨j+1,Or.inr (by have:=Hi.o;omega),by have:=Hi.o;go_num,L,H4.o.1,H4.o.2.1,H4.o.2.2,a4⟩
    simp[intOf];omega
   have be:¬(i:Int)<m:=Qo
   have ht:A.take j=A:=by
    apply fR;have h1:=Hi.o;have h2:=Hm.o;rw[az.o,dY];omega
   rw[ht]at TS aa;have B:=hyd (C _ wr F TS (aS aa));clear TS Y ht F C;go_wp2_with fail;apply B.o.mono;rintro e w4 ⟨rfl,l⟩;go_wp2;go_end0;exact⟨rfl,l⟩
  have q1:((d.kind:Int)==1)=false:=Qp
  by_cases ab:d.kind=3\/d.kind=4
  .have HC:=hyd (aj.o n f w2 hn (K.o w2 U.o.1).2.2 U.o.2.2);have Z:Hid (∀(w':World),SF sb w w'->TC sb (bl (λq=>f q || Tw T N ix (UF T n) q) (P+R)) w'->Cp 53 #[pT gb,I6 r,I6 u,sL sb (P+R) sc] w' (Ws sb (P+R) f (QT T N ix P r n) w)):=λw' h1 h2=>C.o _ w' h1 h2 (λq=>Bc h.o.1 h.o.2.1 h.o.2.2.1 W.o.1 (by rw[<-W.o.2.1];exact ab) q)
   by_cases e3:d.kind=3
   .have q3:((d.kind:Int)==3)=true:=by simp[e3]
    clear C ab e3;go_wp2_with fail;apply HC.o.mono;rintro e w3 ⟨rfl,v,I⟩;have z:=U.o.1.trans I;have B:=hyd (Z w3 z v);clear v I z Z;go_wp2_with fail;apply B.o.mono;rintro e w4 ⟨rfl,l⟩;go_wp2;go_end0;exact⟨rfl,l⟩
   have q3:((d.kind:Int)==3)=false:=Qp
   have q4:((d.kind:Int)==4)=true:=Qp
   clear C ab e3;go_wp2_with fail;apply HC.o.mono;rintro e w3 ⟨rfl,v,I⟩;have z:=U.o.1.trans I;have B:=hyd (Z w3 z v);clear v I z Z;go_wp2_with fail;apply B.o.mono;rintro e w4 ⟨rfl,l⟩;go_wp2;go_end0;exact⟨rfl,l⟩
  have q3:((d.kind:Int)==3)=false:=Qp
  have q4:((d.kind:Int)==4)=false:=Qp
  have B:Hid (Cp 53 #[pT gb,I6 r,I6 u,sL sb (P+R) sc] w2 (Ws sb (P+R) f (QT T N ix P r n) w)):=C.o (λ_=>false) w2 U.o.1 (by rw[VZ (g:=f) (λq=>dw _)];exact U.o.2.2) (λq=>by
   rw[dx];exact DD h.o.2.1 h.o.2.2.1 W.o.1 (by rw[<-W.o.2.1];exact e1) (by rw[<-W.o.2.1];omega) (by rw[<-W.o.2.1];omega) q)
  clear C ab;go_wp2_with fail;apply B.o.mono;rintro e w4 ⟨rfl,l⟩;go_wp2;go_end0;exact⟨rfl,l⟩
def GX.gl{ad:Nat->Nat}(h:GX X gb P R tr ad cp ms Ts Ns es w):GL gb P R w:=by
 let⟨a,c,h0,_⟩:=h.t w (Wk.refl _ _) (Zg _);let⟨b,c1,h1⟩:=h.p w (Wk.refl _ _) (Zg _);exact⟨⟨a,c,h0⟩,b,c1,h1⟩
def A8(es:Nat->Rx)(Ts:Nat->Nat->Nd)(Ns:Nat->Nat)(P r q:Nat):Dn es Ts Ns P (r+1) q=(Dn es Ts Ns P r q || (Tw (Ts r) (Ns r) (Tj es Ts r) (UF (Ts r) (Ns r-1)) q || (decide (q=P+r)&&Wj (Ts r) (Ns r-1)))):=by
 unfold Dn;rw[ZT,List.any_append];simp
def zW(X:Nat->Prop)(gb R:Nat)(tr ad cp:Nat->Nat)(ms:Nat->Pl)(Ts:Nat->Nat->Nd)(Ns:Nat->Nat)(es:Nat->Rx)(ti nd:Nat->Nat)(au:Gm R Ts Ns es ti nd)(hR:R<=1000)(hP:Y4 es R<=1000)(av:∀r,r<R->Ns r<=20000)(w:World)(hG:GX X gb (Y4 es R) R tr ad cp ms Ts Ns es w):
  Cp 55 #[pT gb] w λe w'=>e=.returned (.slice (some (a_ w.heap.size 0)) (Y4 es R+R) (Y4 es R+R))/\TC w.heap.size (bl (Dn es Ts Ns (Y4 es R) R) (Y4 es R+R)) w'/\Bl w w'/\w.heap.size+1<=w'.heap.size:=by
 let⟨P,v⟩:=nam (Y4 es R);have af:¬X w.heap.size:=λh=>by have:=hG.s _ h;omega
 have Y:Hid (∀(r k:Nat) (f':N_) (w':World),r<R->k<Ns r->GX X gb P R tr ad cp ms Ts Ns es w'->TC w.heap.size (bl f' (P+R)) w'->Cp 114 #[pT gb,I6 r,I6 k,.slice (some (a_ w.heap.size 0)) (P+R) (P+R)] w' (Ws w.heap.size (P+R) f' (Tw (Ts r) (Ns r) (Tj es Ts r) (UF (Ts r) k)) w')):=λr k f' w' n hk h1 h2=>by
  rw[v]at h1 h2 ⊢;exact Rc X gb R tr ad cp ms Ts Ns es ti nd au hR hP av r n w.heap.size _ af (k+1) k f' w' Qo hk h1 h2
 have aa:Hid (∀(r k:Nat) (w':World),r<R->k<Ns r->TR (tr r) (Ts r) (Ns r) w'->Cp 115 #[.pointer (some (a_ (tr r) 0)),I6 k] w' λe w''=>e=.returned (.bool (Wj (Ts r) k))/\Bl w' w''):=λr k w' n hk h1=>by
  have f:=(au.t r n).1;have O:=V4 f.w f.u;exact U8 (tr r) (Ts r) (Ns r) (by have:=av r n;omega) f.w (λi hi=>(f.k i hi).1) (Wj (Ts r)) O.nl0 O.nl1 O.nl2 O.nl3 (k+1) k w' Qo hk h1 (λi hi=>by have:=(f.k i hi).2;omega)
 have Z:Hid (∀r,r<R->1<=Ns r/\Ns r<=20000):=λr n=>⟨(au.t r n).2.1,av r n⟩
 rw[<-v]at hG hP ⊢;have m:=hyd (RZ gb P R w hP hR hG.gl);have A:Hid (∀w',Bl w w'->GX X gb P R tr ad cp ms Ts Ns es w'):=λw' h=>hG.below h
 have aj:(R:Int)<=1000:=Qo
 clear hG au av v;go_enter func55,ntmps55;go_wp2_with fail;apply m.o.mono;rintro e w1 ⟨rfl,T1,B1,s1⟩;clear m;go_wp2
 go_loopw [4] (λx w'=>∃r:Nat,r<=R/\x=I6 r/\TC w.heap.size (bl (Dn es Ts Ns P r) (P+R)) w'/\Bl w w'/\w.heap.size+1<=w'.heap.size) (λx _=>R-(intOf x).toNat)
 .exact⟨0,Qo,rfl,by rw[VZ (g:=λ_=>false) (λq=>by simp[Dn])];exact T1,B1,s1⟩
 clear T1 B1 s1;obtain⟨r,n,rfl,TS,B,sz⟩:=hrel;have gx:=A.o wr B;let⟨ta,tc,ct,y⟩:=gx.t wr (Wk.refl _ _) (Zg _);by_cases j:r<R
 .have ah:(r:Int)<R:=Qo
  let⟨aq,ar,et,H,J⟩:=y r j;subst et;have c1:=J.r;let⟨n1,n2⟩:=Z.o r j;let⟨z,K⟩:=nam (Ns r-1);rw[show((Ns r:Int)-1)=(z:Int) by omega]at c1;let⟨Q,l⟩:=nam (tr r);rw[<-l]at c1 H;have HC:=hyd (Y r z _ wr j Qo gx TS);let⟨V,hV⟩:=nam (Wj (Ts r) z);have D:Hid (∀w',TR Q (Ts r) (Ns r) w'->Cp 115 #[pT Q,I6 z] w' λe w''=>e=.returned (.bool V)/\Bl w' w''):=λw' h1=>by
   rw[hV,l];rw[l]at h1;exact aa r z w' j Qo h1
  have E:Hid (∀q,Dn es Ts Ns P (r+1) q=((Dn es Ts Ns P r q || Tw (Ts r) (Ns r) (Tj es Ts r) (UF (Ts r) z) q) || (decide (q=P+r)&&V))):=λq=>by rw[A8,hV,K,dC]
  have F:Hid (∀w',Bl w w'->TR Q (Ts r) (Ns r) w'/\w'.cell? (a_ Q 1)=some (I6 (z:Int))/\(∃a c,w'.cell? (a_ gb 1)=some (.slice a P c))):=λw' h=>by
   have I:=A.o w' h;let⟨_,_,_,h2⟩:=I.t w' (Wk.refl _ _) (Zg _);let⟨_,_,_,_,h3⟩:=h2 r j;rw[l];refine⟨h3.tr,?_,I.p w' (Wk.refl _ _) (Zg _)⟩;rw[h3.r];congr 2;omega
  have HB:=hyd B;clear gx y J TS hV K l n1 n2 B;go_wp2_with fail;apply HC.o.mono;rintro e w2 ⟨rfl,G,T⟩;have S:=HB.o.trans T.b;let⟨M,ac,al,an,ae⟩:=F.o w2 S;have C:=hyd (D w2 M);have ap:w.heap.size+1<=w2.heap.size:=by have:=T.b.size;omega
  have U:=hyd2 G S;clear HC G T S M D c1 H ct;go_wp2_with fail;apply C.o.mono;rintro e w3 ⟨rfl,N⟩;have d:=U.o.1.block (N.block _ Qo);have o:Bl w w3:=U.o.2.trans (N.mono Qo);let⟨_,_,am,ao,ai⟩:=F.o w3 o;have L:w.heap.size+1<=w3.heap.size:=by have:=N.size;omega
  clear C U N ac ae;cases V
  .have W:Hid (TC w.heap.size (bl (Dn es Ts Ns P (r+1)) (P+R)) w3):=by
    show TC _ _ _;rw[VZ (λq=>by rw[E.o q,dE,dw])];exact d
   clear d;go_wp2;go_roundw
   .exact⟨r+1,Qo,Qg,W,o,L⟩
   simp[intOf];omega
  let⟨k1,k2⟩:=d (P+r) _ (YO _ Qo);have W:Hid (TC w.heap.size (bl (Dn es Ts Ns P (r+1)) (P+R)) (w3.setCell (a_ w.heap.size (P+r)) (.bool true))):=by
   show TC _ _ _;rw[VZ (λq=>by rw[E.o q,Bool.and_true])];exact GJ d Qo
  clear d;go_wp2;go_roundw
  .exact⟨r+1,Qo,Qg,W,o.setCell (p:=(a_ w.heap.size (P+r))) (Zg _) _,by rw[Zz];exact L⟩
  simp[intOf];omega
 have ak:¬(r:Int)<R:=Qo
 have ag:r=R:=Qo
 subst ag;have ab:=hyd TS;clear TS gx y;go_wp2;go_ret;exact⟨rfl,ab,B,sz⟩
def AJ.below{m:Pl}(h:AJ tb T N g cap m w)(z:Bl w w'):w'.cell? (a_ tb 1)=some (I6 ((N:Int)-1)):=by
 rw[z.cell (p:=(a_ tb 1)) (Ze w _ h.r)];exact h.r
def zQ{L:Ln}:En L x (λi=>decide (i=0)=true) k<->L (x.take k):=by
 constructor
 .rintro ⟨i,_,h2,h3⟩;have:i=0:=gG h2;subst this;exact h3
 exact λh=>⟨0,dM _,rfl,h⟩
def Kv(tb:Nat)(T:Nat->Nd)(N g cap:Nat)(m:Pl)(ab:1<=N)(hN:N<=20000)(aa:Md T N)(s:ByteArray)(hs:s.size<=2000)(w:World)(hT:AJ tb T N g cap m w):
  Cp 40 #[pT tb,.string s] w λe w'=>∃k:Nat,e=.returned (I6 k)/\zd (EK T (N-1)) (nm s) k/\Bl w w':=by
 let⟨p,R⟩:=nam (s.size+1);let⟨c,o⟩:=nam (N-1);have I:Hid (∀(fa:Option Addr) (C:Nat) (f:N_) (w':World),Bl w w'->BR fa f p w'->Cp 92 #[pT tb,I6 c,.string s,.slice fa p C] w' (QW T (nm s) p c f w')):=λfa C f w' h1 h2=>by
  rw[R]at h2 ⊢;exact EH tb T N hN aa s hs c fa C f w' Qo (hT.tr.below h1) h2
 have K:Hid (∀w',Bl w w'->w'.cell? (a_ tb 1)=some (I6 (c:Int))):=λw' h=>by
  rw[hT.below h];congr 2;omega
 have Z:(s.size:Int)+1=(p:Int):=Qo
 have n:=Tm w p Qo;let⟨w1,a⟩:=nam (w.alloc (.cells (bl (λ_=>false) p).toArray 4));have z:T_ w.heap.size (bl (λ_=>false) p) w1:=by rw[a];exact T_.boxed w _ _
 have F:Bl w w1:=by rw[a];exact box_bel w _
 rw[<-a]at n;let⟨w2,b⟩:=nam (w1.setCell (a_ w.heap.size 0) (.bool true));have M:T_ w.heap.size (bl (λi=>decide (i=0)) p) w2:=by
  have h:=Bm.TC.set z 0 (by rw[Y9];omega) (.bool true);rw[Vm,<-b]at h;rw[YW (g:=λj=>if j=0 then true else false) (λj _=>by by_cases e:j=0<;>simp[e])];exact h
 have q:Bl w w2:=by rw[b];exact F.setCell (p:=(a_ w.heap.size 0)) (Zg _) _
 have c0:=z 0 _ (YO _ (show 0<p by omega));let⟨A,B⟩:=c0;have W:=K.o w2 q;have H:=hyd (I.o _ p _ w2 q (BR.of M));have v:=hyd q;have d:=hyd b;rw[<-o];clear hT aa z M F q a b o R I K;go_enter func40,ntmps40;go_wp2_with (first|(with_reducible show wpList _ _ _ (⟨_,Op.nilCheck _,_,_,_,_⟩::_) _ _;refine Ya.out ?_));refine⟨?_⟩;rw[<-d.o];clear n A B d;go_wp2_with fail;apply H.o.mono;rintro e w3 ⟨ob,oc,t,rfl,O,ho,G,h3⟩;have x:=hyd (v.o.trans (G.mono v.o.size));have J:Hid (∀k,k<p->(t k=true<->EK T c ((nm s).take k))):=λk u=>(h3 k u).trans zQ
 have U:=hyd O;clear H W v O G h3;go_wp2
 go_loopw [7,8] (λnv E w'=>∃i k:Nat,i<=p/\E=I6 i/\nv=I6 k/\k<p/\w'=w3/\Hid ((k=0\/t k=true)/\∀j,k<j->j<i->t j=false)) (λ_ E _=>p-(intOf E).toNat)
 .exact⟨0,0,Qo,rfl,rfl,Qo,rfl,Or.inl rfl,λj h1 h2=>Qo⟩
 obtain⟨i,k,hi,rfl,rfl,u,rfl,r⟩:=hrel;by_cases l:i<p
 .have Q:(i:Int)<p:=Qo
  have V:=(U i _ (YO _ l)).1;let⟨y,D⟩:=nam (t i);have L:=hyd D;rw[<-D]at V;clear D;cases y
  .go_wp2;go_roundw
   .exact⟨i+1,k,Qo,Qg,by first|rfl|trivial,u,by first|rfl|trivial,r.o.1,λj h1 h2=>by
    by_cases e:j=i
    .subst e;exact L.o.symm
    exact r.o.2 j h1 Qo⟩
   simp[intOf];omega
  go_wp2;go_roundw
  .exact⟨i+1,i,Qo,Qg,by first|rfl|trivial,l,by first|rfl|trivial,Or.inr L.o.symm,λj h1 h2=>Qo⟩
  simp[intOf];omega
 have Y:¬(i:Int)<p:=Qo
 have S:Hid (zd (EK T c) (nm s) k):=by
  show zd _ _ _;have hl:=Co s;refine⟨?_,Qo,λj h1 h2 X=>?_⟩
  .rcases r.o.1 with h|h
   .exact Or.inl h
   exact Or.inr ((J k u).1 h)
  have P:=r.o.2 j h1 Qo;rw[(J.o j Qo).2 X]at P;cases P
 go_wp2;go_ret;exact⟨k,by first|rfl|simp,S,x⟩
def Lc:∃i,prog.info? 94=some i/\i.zero=some (.pointer none)/\i.size=1/\i.bytes=8:=by
 have h1:(prog.info? 94).isSome=true:=Qk
 let⟨i,a⟩:=Zx.1 h1;refine⟨i,a,?_,?_,?_⟩
 .have:((prog.info? 94).bind (·.zero))=some (.pointer none):=Qk
  rw[a]at this;exact this
 .have:((prog.info? 94).map (·.size))=some 1:=Qk
  rw[a]at this;simpa using this
 have:((prog.info? 94).map (·.bytes))=some 8:=Qk
 rw[a]at this;simpa using this
def PB:∃i,prog.info? 23=some i/\i.zero=some (sN)/\i.size=1/\i.bytes=24:=by
 have h1:(prog.info? 23).isSome=true:=Qk
 let⟨i,a⟩:=Zx.1 h1;refine⟨i,a,?_,?_,?_⟩
 .have:((prog.info? 23).bind (·.zero))=some (sN):=Qk
  rw[a]at this;exact this
 .have:((prog.info? 23).map (·.size))=some 1:=Qk
  rw[a]at this;simpa using this
 have:((prog.info? 23).map (·.bytes))=some 24:=Qk
 rw[a]at this;simpa using this
def WO(base:Nat)(te:TypeId)(v:Value)(l:List Value)(w:World):Prop:=w.ownsRow base te 1 v l.length l
def WO.nil(base:Nat)(z:TypeId)(w:World):WO base z (sN) [] w:=⟨rfl,Or.inl ⟨rfl,rfl⟩⟩
def WO.form{z:TypeId}{l:List Value}(h:WO base z v l w):∃ad cap,v=.slice ad l.length cap/\∀i u,l[i]?=some u->∃g,ad=some (a_ g 0)/\w.cell? (a_ g i)=some u:=by
 rcases h.2 with ⟨rfl,h0⟩|⟨g,cap,c,rfl,h1,h2,h3⟩
 .refine⟨none,0,by rw[h0],λi u a=>?_⟩;have:=(Zi.1 a).1;omega
 refine⟨some (a_ g 0),cap,rfl,λi u a=>⟨g,rfl,?_⟩⟩;have b:=h.cells (g:=g) rfl i u a;rw[fe,Zn]at b;exact b
def WO.il{z:TypeId}{l:List Nat}(h:WO base z v (l.map λx:Nat=>.int .i64 (x:Int)) w):∃ad cap,v=.slice ad l.length cap/\IL ad (λi=>((l.getD i 0:Nat):Int)) l.length w:=by
 let⟨ad,cap,e,c⟩:=h.form;rw[Zy]at e;refine⟨ad,cap,e,λi d=>?_⟩;obtain⟨x,a⟩:∃x,l[i]?=some x:=⟨_,Zd d⟩;let⟨g,b,e2⟩:=c i (I6 (x:Int)) (by rw[fT,a];rfl);refine⟨g,0,b,?_⟩;rw[Zn,e2];simp only[Zf,a,fX]
def YK(ts te:TypeId){z:Value}{bs:Nat}(hund:prog.underlying ts=some (.slice te))(hinf:∃i,prog.info? te=some i/\i.zero=some z/\i.size=1/\i.bytes=bs)(hz:z.cells.size=1)(hbs:bs<=24)
  (hgd:o.guard=none) (s x:Operand) (ho:o.op=.call { callee:=.builtin .append,args:=#[s,x],argTypes:=#[ts,ts] }) (base:Nat)
  (v:Value) (l:List Value) (hs:a.eval s=v) (hown:WO base te v l w) (hn:l.length<=1000000)
  (B:Nat) (t:Value) (ht:t.oneCell'=true) (hx:a.eval x=.slice (some ⟨B,0,none⟩) 1 1) (hnews:w.cell? ⟨B,0,none⟩=some t) (hbase:base<=w.heap.size) (H:Nat) (hH:w.heap.size=H)
  (h:∀g cap w',WO base te (.slice (some ⟨g,0,none⟩) (l.length+1) cap) (l++[t]) w'->w.grownBy w' v.ownBlock->(v.ownBlock=some g\/g=H)->g<w'.heap.size->wpList prog ops Q rest (a.put o.dst (.slice (some ⟨g,0,none⟩) (l.length+1) cap)) w'):wpList prog ops Q (o::rest) a w:=by
 obtain⟨i,k,c,d,e⟩:=hinf;refine fD w hgd s x ts ho base te i z 1 bs hund k c d e hz Qo v l.length l hs hown ⟨B,0,none⟩ 1 1 [t] hx rfl (λj u b=>?_) (by simp[ht]) Qo (by unfold maxLen;omega) (by have:(l.length+1)*bs<=1000001*24:=dP Qo hbs;omega) hbase H hH ?_
 .rw[fe,Zn];cases j with
  |zero=>simp at b;subst b;exact hnews
  |succ j=>simp at b
 intro g cap w' h1 h2 h3 f;refine h g cap w' ?_ h2 h3 f;unfold WO;rw[Zl];exact h1
def zX:Nat->TypeId
 |0=>94
 |1=>3
 |2=>3
 |3=>23
 |_=>78
def Yj{α:Type}(f:Nat->α)(i:Nat)(x:α)(j:Nat):α:=if j=i then x else f j
def Y1{α:Type}(f:Nat->α)(i:Nat)(x:α):Yj f i x i=x:=by simp[Yj]
def Y5{α:Type}(f:Nat->α){i j:Nat}(x:α)(h:j≠i):Yj f i x j=f j:=by simp[Yj,h]
structure G5 (gb base n:Nat) (ty:Nat->TypeId) (vs:Nat->Value) (ls:Nat->List Value) (X:Nat->Prop) (w:World):Prop where
 c:TC gb ((List.range n).map vs) w
 o:∀i,i<n->WO base (ty i) (vs i) (ls i) w
 d:∀i j k,i<n->j<n->i≠j->(vs i).ownBlock=some k->(vs j).ownBlock≠some k
 x:∀k,X k->k<w.heap.size/\k≠gb/\∀i,i<n->(vs i).ownBlock≠some k
 g:gb<base
def G5.cell{H:Nat->TypeId}(h:G5 gb base n H vs ls X w){i:Nat}(z:i<n):w.cell? (a_ gb i)=some (vs i)/\w.frozen? (a_ gb i)=false:=h.c i (vs i) (by simp[z])
def G5.lt{H:Nat->TypeId}(h:G5 gb base n H vs ls X w)(z:0<n):gb<w.heap.size:=Ze w _ (h.cell z).1
def G5.keep{z:Nat->TypeId}(h:G5 gb base n z vs ls X w)(h0:w'.heap[gb]?=w.heap[gb]?)(H:∀i k,i<n->(vs i).ownBlock=some k->w'.heap[k]?=w.heap[k]?)(J:∀k,X' k->k<w'.heap.size/\k≠gb/\∀i,i<n->(vs i).ownBlock≠some k):G5 gb base n z vs ls X' w':=
 ⟨h.c.block h0,λi b=>XS (h.o i b) (λk a=>H i k b a),h.d,J,h.g⟩
def G5.below{H:Nat->TypeId}(h:G5 gb base n H vs ls X w)(J:0<n)(z:Bl w w'):G5 gb base n H vs ls X w':=
 h.keep (z.block _ (h.lt J)) (λi k b a=>z.block k ((h.o i b).lt k a).2) (λk a=>⟨by have:=(h.x k a).1;have:=z.size;omega,(h.x k a).2⟩)
def G5.more{z:Nat->TypeId}(h:G5 gb base n z vs ls X w)(H:∀k,X' k->X k\/(k<w.heap.size/\k≠gb/\∀i,i<n->(vs i).ownBlock≠some k)):G5 gb base n z vs ls X' w:=
 ⟨h.c,h.o,h.d,λk a=>by
  rcases H k a with h1|h1
  .exact h.x k h1
  exact h1,h.g⟩
def Lw(z:i<n)(v:Value):((List.range n).map vs).set i v=(List.range n).map (Yj vs i v):=by
 refine fG (λj=>?_);by_cases a:j<n
 .by_cases e:j=i
  .subst e;rw[fx (by simpa using a)];simp[a,Y1]
  rw[fA (λq=>e q.symm)];simp[a,Y5 vs v e]
 rw[ZB Qp,ZB Qp]
def G5.app{gb base n:Nat}{Z:Nat->TypeId}{vs:Nat->Value}{ls:Nat->List Value}{X:Nat->Prop}{w w5:World}(h:G5 gb base n Z vs ls X w){i:Nat}(H:i<n){t:Value}{g len cap:Nat}(Y:w.grownBy w5 (vs i).ownBlock)(ho:WO base (Z i) (sL g len cap) (ls i++[t]) w5)(J:(vs i).ownBlock=some g\/g=w.heap.size):
  G5 gb base n Z (Yj vs i (sL g len cap)) (Yj ls i (ls i++[t])) X (w5.setCell (a_ gb i) (sL g len cap))/\Wk X w (w5.setCell (a_ gb i) (sL g len cap))/\w.heap.size<=(w5.setCell (a_ gb i) (sL g len cap)).heap.size /\
  (∀k,k<w.heap.size->k≠gb->(vs i).ownBlock≠some k->(w5.setCell (a_ gb i) (sL g len cap)).heap[k]?=w.heap[k]?):=by
 have B:=h.lt Qo;have A:=h.g;have D:=(ho.lt g rfl).1;obtain⟨u,v⟩:∃u,u=w5.setCell (a_ gb i) (sL g len cap):=⟨_,rfl⟩;have r:∀k,k≠gb->u.heap[k]?=w5.heap[k]?:=λk a=>by rw[v];exact Zq w5 (a_ gb i) _ k (λe=>a e)
 have F:u.heap.size=w5.heap.size:=by rw[v,Zz]
 have E:=Y.size;have b:∀k,k<w.heap.size->k≠gb->(vs i).ownBlock≠some k->u.heap[k]?=w.heap[k]?:=λk h1 h2 h3=>by rw[r k h2,Y.block k h1 (λe=>h3 e.symm)]
 have q:∀j,j<n->∀k,(vs j).ownBlock=some k->k≠gb:=λj f k a=>by have:=((h.o j f).lt k a).1;omega
 have s:w5.heap[gb]?=w.heap[gb]?:=Y.block gb B (λe=>q i H gb e.symm rfl);rw[<-v];refine⟨⟨?_,λj f=>?_,λj l k f y p a=>?_,λk a=>?_,A⟩,λk a=>b k (h.x k a).1 (h.x k a).2.1 ((h.x k a).2.2 i H),Qo,b⟩
 .rw[v,<-Lw H];exact(h.c.block s).set i (by simpa using H) _
 .by_cases e:j=i
  .subst e;rw[Y1,Y1];exact XS ho (λk a=>r k (by
     have m:g=k:=Zh a;omega))
  rw[Y5 _ _ e,Y5 _ _ e];exact XS (h.o j f) (λk a=>b k ((h.o j f).lt k a).2 (q j f k a) (λe2=>h.d j i k f H e a e2))
 .by_cases C:j=i
  .subst C;rw[Y1]at a;have m:g=k:=Zh a;rw[Y5 _ _ (λe=>p e.symm)];intro e2;rcases J with h1|h1
   .exact h.d j l k f y p (m▸h1) e2
   have:=((h.o l y).lt k e2).2;omega
  rw[Y5 _ _ C]at a;by_cases e2:l=i
  .subst e2;rw[Y1];intro z;have m:g=k:=Zh z;rcases J with h1|h1
   .exact h.d j l k f y p a (m▸h1)
   have:=((h.o j f).lt k a).2;omega
  rw[Y5 _ _ e2];exact h.d j l k f y p a
 refine⟨by have:=(h.x k a).1;omega,(h.x k a).2.1,λj f=>?_⟩;by_cases e:j=i
 .subst e;rw[Y1];intro z;have m:g=k:=Zh z;rcases J with h1|h1
  .exact(h.x k a).2.2 j f (m▸h1)
  have:=(h.x k a).1;omega
 rw[Y5 _ _ e];exact(h.x k a).2.2 j f
def Dm.mono{m:Pl}(h:Dm X tb T N g cap m w)(hs:∀k,X' k->k<w.heap.size)(z:∀k,X k->X' k):Dm X' tb T N g cap m w:=
 ⟨hs,λw' h1 h2=>h.t w' (λk a=>h1 k (z k a)) h2⟩
end
