import Derived.Test.YtoaaklhpmhjhkaaGreatC24
import Derived.Test.YtoaaklhpmhjhkaaGreatC25
set_option maxRecDepth 100000
set_option maxHeartbeats 4000000
set_option linter.all false
namespace Go.Proofs.YtoaaklhpmhjhkaaGreat
section
open Go.RowKit
open Bm
theorem Om (v:Value) (e r a:Int) (w:World) (z:e≠0) (y:∀W,Bl w W->Cp 26 #[v] W λe' w'=>e'=.returned (.tuple #[I6 e,I6 r,I6 a])/\Bl W w'):
  Cp 10 #[v] w λen w'=>en=.returned (.tuple #[.agg XL.toArray,I6 e])/\Bl w w':=by
 have hz:=WV;have p:(e != 0)=true:=by simp[z]
 obtain⟨W0,b⟩:=nam (w.alloc (.cells #[I6 0,sN,sN,sN] 25));have T0:TC w.heap.size XL W0:=by rw[b];exact TC.boxed w XL _
 have B0:Bl w W0:=by rw[b];exact box_bel _ _
 have j:W0.heap.size=w.heap.size+1:=by rw[b];simp
 have n:=hyd (y W0 B0);have g:=hyd b;have i:=hyd j;clear b j y z;go_enter Tryz.func10,Tryz.ntmps10;go_wp2_with fail;rw[<-g.out];refine n.out.mono ?_;rintro en w2 ⟨rfl,k⟩;have o:=T0.block (k.block _ (by have:=i.out;omega));have f:Bl w w2:=B0.trans (k.mono (by have:=i.out;omega));obtain⟨q,m,c,_⟩:=WU (I6 0) (sN) (sN) (sN) o f;obtain⟨s,d⟩:=nam (w2.setCells w.heap.size 0 [I6 0,sN,sN,sN]);rw[<-d]at m c;have l:=hyd d;have h:=hyd c;clear d c o f k B0 T0 n g;go_wp2_with (first|(with_reducible refine gst 25 ?_;refine X9.out ?_));refine⟨?_⟩;refine Za rfl 25 _ _ rfl w.heap.size 0 #[I6 0,sN,sN,sN] rfl rfl q Yl (by simp[Value.oneCell']) ?_;rw[Zc,<-l.out];go_wp2_with fail;refine Zr (v:=.tuple #[.agg #[I6 0,sN,sN,sN],I6 e]) (XO Tryz.results10 rfl h.out rfl) rfl ?_;exact⟨rfl,m⟩
theorem Fk (es:Nat->Rx) (n:Nat) (h1:1<=n) (y:n<=8) (z:Y2 es n<=96) (H:∀k,k<n->(es k).Full) {l:List (N_)}{t:List Int} (h:WS (VT es n) (X5 es n) (TV es n) l.length 0 l t):
  Pn (Xu l t (TV es n).length) (Kq (Xn es n) (Y2 es n)) (λi b=>t.getD (i*(TV es n).length+idx (Kq (Xn es n) (Y2 es n)) b) (-1)):=
 ⟨TE _ _ _,rfl,λ_ _ _ _=>rfl,Nu (Ky es n h1 y z H) (Kw es n y z) (Ki _ _) h,FZ (Sw _ _).1 h⟩
theorem E7 (es:Nat->Rx) {k n:Nat} (y:k<n):(es k).sz<=Y2 es n:=by
 have:=XY es (show k+1<=n from y);simp only[Y2]at this;omega
theorem KM (b Y cap n:Nat) (f:Nat->ByteArray) (w:World) (h1:1<=n) (h8:n<=8) (hb:b<w.heap.size) (hm:∀i,i<n->(f i).size<=maxLen) (hr:Sg b Y f n w) (Z:∀j,j<n->(Pg.wrong (Y7 (f j)) (f j).size).1=0) (aa:¬96<Ye (λj=>Ym (f j)) n):
  Cp 10 #[.slice (some (a_ b Y)) n cap] w (Qe (λj=>Si (f j)) n w):=by
 obtain⟨es,d⟩:∃es:Nat->Rx,es=λj=>Si (f j):=⟨_,rfl⟩
 have p:∀j,j<n->(Pg.readParts (Y7 (f j)) (f j).size).ok=true:=λj y=>((XT (f j)).2 (Z j y)).2.2
 have q:∀j,j<n->(f j).size<=40:=λj y=>((XT (f j)).2 (Z j y)).2.1
 have c:=(Pl es (λj=>Ym (f j)) n (λi m=>by rw[d];exact SA (f i) (p i m)) aa).2;have x:∀k,k<n->(es k).Full:=λk H=>by rw[d];exact LX (f k) (Z k H)
 have v:K2 f n 0 0 0:=by
  obtain⟨e,r,a,I,A⟩:=Da f n;rcases I with ⟨i,m,_,h2,h3,_⟩|⟨_,rfl,rfl,z⟩
  ·exfalso;have:=Z i m;rw[h2]at this;exact h3 this
  rw[if_neg aa]at z;rw[z]at A;exact A
 rw[<-d];refine GT b Y cap n es w h8 c (λW o=>?_) (λW o=>?_) (λl t h=>Fk es n h1 h8 c x h) (λW pb vd nx bs N J K O ra P rows F E G s D u=>Ks pb N vd nx bs J K O ra P rows n W F E G s D u h8)
 ·refine(P0 b Y cap n f 0 0 0 W h1 h8 (ZH hb o.size) hm (hr.below hb o) v).mono ?_;rintro e' w' ⟨rfl,C⟩;exact⟨⟨0,0,rfl⟩,C⟩
 refine J5 b Y cap n f es W h8 (ZH hb o.size) (hr.below hb o) (λi m w'=>?_) c;obtain⟨Q,g,L,_,_,M⟩:=SB (f i) (p i m);have B:es i=Si (f i):=by rw[d]
 rw[B];refine EQ M (f i) L.symm (q i m) ?_ w';rw[<-B];have:=E7 es m;omega
end
section
open Go.RowKit
open Bm Bu
def Ea {α:Type} (a b c:α) (i:Nat):α:=match i with|1=>a|2=>b|_=>c
theorem SD {P:Nat->Prop} (h1:P 1) (h2:P 2) (h3:P 3):∀i,1<=i->i<=3->P i:=λi a b=>by
 have:i=1\/i=2\/i=3:=by omega
 rcases this with rfl|rfl|rfl<;>assumption
def Cz (e:Int) (r:Nat) (L:Nat->List Int) (w:World) (en:Ending) (w':World):Prop:=
 Below w.heap.size w w'/\∃vv:Nat->Value,en=.returned (.tuple #[.agg (triC r vv),.int .i64 e])/\(∀i,1<=i->i<=3->OwnL w.heap.size (vv i) (L i) w')/\∀i j,1<=i->i<=3->1<=j->j<=3->i≠j->∀k,(vv i).ownBlock=some k->(vv j).ownBlock≠some k
def CA (e:Int) (r:Nat) (L:Nat->List Int) (w:World) (en:Ending) (w':World):Prop:=
 Below w.heap.size w w'/\∃(a:Nat->Option Addr) (c:Nat->Nat),en=.returned (.tuple #[.agg (triC r (λi=>.slice (a i) (L i).length (c i))),.int .i64 e])/\∀i,1<=i->i<=3->IL (a i) (λj=>(L i).getD j 0) (L i).length w'
def FK (ad:Option Addr) (n:Nat) (f:Nat->ByteArray) (w:World):Prop:=1<=n->∃b off,ad=some ⟨b,off,none⟩/\b<w.heap.size/\Sg b off f n w
variable {B n:Nat}{kf:Nat->Int}{E:Nat->N_}{nx:Nat->Nat->Int}{ad:Option Addr}{vc vl vn:Value}{w w':World}
theorem FK.below {f:Nat->ByteArray} (h:FK ad n f w) (y:Bl w w'):FK ad n f w':=λh1=>by
 obtain⟨b,a,h2,h3,c⟩:=h h1;exact⟨b,a,h2,ZH h3 y.size,c.below h3 y⟩
variable {en:Ending}
theorem Q4 {e:Int} (z:en=.returned (.tuple #[.agg XL.toArray,I6 e])) (y:Bl w w'):Cz e 0 (λ_=>[]) w en w':=
 ⟨y,λ_=>sN,z,λ_ _ _=>OwnL.nil _ _,λ_ _ _ _ _ _ _ _ a=>by cases a⟩
theorem Q5 {e:Int} (z:en=.returned (.tuple #[.agg XL.toArray,I6 e])) (y:Bl w w'):CA e 0 (λ_=>[]) w en w':=
 ⟨y,λ_=>none,λ_=>0,z,λ_ _ _ j a=>absurd a (Nat.not_lt_zero j)⟩
def Lb (n:Nat) (f:Nat->ByteArray) (e:Int) (r:Nat) (L:Nat->List Int):Prop:=
 (∀i,(L i).length<=1000000)/\r<=8 /\
 (∀F,F=22\/F=34->∀ad cap w,FK ad n f w->Calls Tryz.prog F #[.slice ad n cap] w (Cz e r L w)) /\
 (∀ad cap w,FK ad n f w->Calls Tryz.prog 10 #[.slice ad n cap] w (CA e r L w))
theorem IK {y:Nat->Int} (h:∀b,b<n->kf b=y b):TL E kf n=TL E y n:=by
 unfold TL;exact ZO (λb a=>by rw[h b (ZI.1 a)])
noncomputable def Sy (es:Nat->Rx) (n:Nat) (A:Aut):Nat->List Int:=Ea (TL (Cl (Yz A (alB A)) (cnt (alB A) A.N)) (CJ es n) 256) (U7 A (alB A) (cnt (alB A) A.N)) (WQ (Yz A (alB A)) (reps (Cl (Yz A (alB A)) (cnt (alB A) A.N)) A.K) (cnt (alB A) A.N))
theorem DL (es:Nat->Rx) (n:Nat) (A:Aut) (z:A.K<=256) (y:¬96<cnt (alB A) A.N) (i:Nat):(Sy es n A i).length<=1000000:=by
 unfold Sy Ea;split
 ·rw[Uh];omega
 ·rw[Uo];omega
 rw[Ur];have h1:(reps (Cl (Yz A (alB A)) (cnt (alB A) A.N)) A.K).length<=256:=ZJ (cnt_le _ _) z;have h2:cnt (alB A) A.N*(reps (Cl (Yz A (alB A)) (cnt (alB A) A.N)) A.K).length<=96*256:=Nat.mul_le_mul (by omega) h1;omega
variable {A:Aut}{es:Nat->Rx}
theorem DQ (Y:Bl w w') (Z:∀b,b<256->kf b=CJ es n b) (J:OwnL w.heap.size vc (TL (Cl (Yz A (alB A)) (cnt (alB A) A.N)) kf 256) w') (o2:OwnL w.heap.size vl (U7 A (alB A) (cnt (alB A) A.N)) w') (o3:OwnL w.heap.size vn (WQ (Yz A (alB A)) (reps (Cl (Yz A (alB A)) (cnt (alB A) A.N)) A.K) (cnt (alB A) A.N)) w')
  (y:∀k,vc.ownBlock=some k->vl.ownBlock≠some k) (z:∀k,vc.ownBlock=some k->vn.ownBlock≠some k) (H:∀k,vl.ownBlock=some k->vn.ownBlock≠some k):Cz 0 n (Sy es n A) w (.returned (.tuple #[.agg #[I6 n,vc,vl,vn],I6 0])) w':=by
 rw[IK Z]at J;refine⟨Y,Ea vc vl vn,rfl,SD J o2 o3,?_⟩;refine SD (P:=λi=>∀j,1<=i->i<=3->1<=j->j<=3->i≠j->∀k,(Ea vc vl vn i).ownBlock=some k->(Ea vc vl vn j).ownBlock≠some k) ?_ ?_ ?_ |> λh i j d f a c=>h i d f j d f a c
 ·intro j _ _ a c;exact SD (P:=λj=>1≠j->∀k,vc.ownBlock=some k->(Ea vc vl vn j).ownBlock≠some k) (λh=>absurd rfl h) (λ_=>y) (λ_=>z) j a c
 ·intro j _ _ a c;exact SD (P:=λj=>2≠j->∀k,vl.ownBlock=some k->(Ea vc vl vn j).ownBlock≠some k) (λ_ k h e=>y k e h) (λh=>absurd rfl h) (λ_=>H) j a c
 intro j _ _ a c;exact SD (P:=λj=>3≠j->∀k,vn.ownBlock=some k->(Ea vc vl vn j).ownBlock≠some k) (λ_ k h e=>z k e h) (λ_ k h e=>H k e h) (λh=>absurd rfl h) j a c
theorem DV {m:Value} (y:Bl w w') (H:Pn A (Kq (Xn es n) (Y2 es n)) nx) (z:Cu n (reps (alB A) A.N) (RN A nx (reps (alB A) A.N)) A.vd B (.returned m) w'):CA 0 n (Sy es n A) w (.returned (.tuple #[m,I6 0])) w':=by
 obtain⟨c,d,k,lc,l,nc,h1,_,e,f,a⟩:=z;cases h1;obtain⟨r,s,t⟩:=NU H (CJ es n) (λ_ _=>rfl);have o:(reps (alB A) A.N).length=cnt (alB A) A.N:=rfl;rw[o]at e f a ⊢;rw[s]at a ⊢;rw[t]at a;have j:(Sy es n A 3).length=cnt (alB A) A.N*cnt (Cl (Yz A (alB A)) (cnt (alB A) A.N)) A.K:=by show(WQ _ _ _).length=_;rw[Ur];rfl
 have h:(Sy es n A 2).length=cnt (alB A) A.N:=Uo _ _ _;have g:(Sy es n A 1).length=256:=Uh _ _ _;refine⟨y,Ea c k l,Ea d lc nc,?_,?_⟩
 ·show _=Ending.returned (.tuple #[.agg #[I6 n,.slice c (Sy es n A 1).length d,.slice k (Sy es n A 2).length lc,.slice l (Sy es n A 3).length nc],I6 0]);rw[g,h,j]
 refine SD ?_ ?_ ?_
 ·rw[g];exact e.congr (λb p=>(r b p).symm)
 ·rw[h];refine f.congr (λi q=>?_);show _=(U7 A (alB A) (cnt (alB A) A.N)).getD i 0;simp[U7,Zf,q]
 rw[j];exact a
def BW (n r:Nat) (L:Nat->List Int):Prop:=r=n/\1<=n/\n<=8/\∃(es:Nat->Rx) (l:List (Nat->Bool)) (t:List Int) (A:Aut),(∀k,k<n->(es k).Full)/\Y2 es n<=96/\WS (VT es n) (X5 es n) (TV es n) l.length 0 l t/\A=Xu l t (TV es n).length/\¬96<cnt (alB A) A.N/\L=Sy es n A
theorem CE (n:Nat) (f:Nat->ByteArray) (hn:n<=maxLen) (hm:∀i,i<n->(f i).size<=maxLen):∃e r L,Lb n f e r L/\(e=0->BW n r L):=by
 by_cases c:1<=n/\n<=8
 ·obtain⟨e,r,a,hP,S⟩:=Da f n;by_cases he:e=0
  ·subst he;have u:(∀j,j<n->(Pg.wrong (Y7 (f j)) (f j).size).1=0)/\¬96<Ye (λj=>Ym (f j)) n:=by
    rcases hP with ⟨i,_,_,_,h3,_⟩|⟨h1,_,_,h4⟩
    ·exact absurd rfl h3
    refine⟨h1,λh=>?_⟩;rw[if_pos h]at h4;cases h4
   obtain⟨u,x⟩:=u;have Y:∀F,F=22\/F=34->∀ad cap w,FK ad n f w->Cp F #[.slice ad n cap] w (Nj (λj=>Si (f j)) n w):=λF C ad cap w h=>by
    obtain⟨b,o,rfl,H,P⟩:=h c.1;rcases C with rfl|rfl
    ·exact MQ b o cap n f w c.1 c.2 H hm P u x
    exact Mq b o cap n f w c.1 c.2 H hm P u x
   have Z:∀ad cap w,FK ad n f w->Cp 10 #[.slice ad n cap] w (Qe (λj=>Si (f j)) n w):=λad cap w h=>by
    obtain⟨b,o,rfl,H,P⟩:=h c.1;exact KM b o cap n f w c.1 c.2 H hm P u x
   have af:∀j,j<n->(Pg.readParts (Y7 (f j)) (f j).size).ok=true:=λj hj=>((XT (f j)).2 (u j hj)).2.2
   obtain⟨es,V⟩:∃es:Nat->Rx,es=λj=>Si (f j):=⟨_,rfl⟩
   have M:=(Pl es (λj=>Ym (f j)) n (λi hi=>by rw[V];exact SA (f i) (af i hi)) x).2;have ab:∀k,k<n->(es k).Full:=λk hk=>by rw[V];exact LX (f k) (u k hk)
   rw[<-V]at Y Z;have T:=Sw (Xn es n) (Y2 es n);by_cases q:Ov (VT es n) (X5 es n) (TV es n)
   ·refine⟨8,0,λ_=>[],⟨λ_=>by simp,by omega,λF C ad cap w h=>(Y F C ad cap w h).mono ?_,λad cap w h=>(Z ad cap w h).mono ?_⟩,λh=>by cases h⟩
    ·rintro en w' ⟨z,v⟩;rcases v with ⟨rfl,_⟩|⟨l,t,A,_,G,_⟩
     ·exact Q4 rfl z
     obtain⟨s,k,I,J,f2,b2,x1,x2,x3,x4⟩:=q;exact(WS.not_both T.1 G x1 x2 x3 x4).elim
    rintro en w' ⟨z,v⟩;rcases v with ⟨rfl,_⟩|⟨l,t,A,nx,O,_,G,_⟩
    ·exact Q5 rfl z
    obtain⟨s,k,I,J,f2,b2,x1,x2,x3,x4⟩:=q;exact(WS.not_both T.1 G x1 x2 x3 x4).elim
   by_cases D:∃l t,WS (VT es n) (X5 es n) (TV es n) l.length 0 l t
   ·obtain⟨l,t,G⟩:=D;obtain⟨A,R⟩:=nam (Xu l t (TV es n).length);have aa:=Fk es n c.1 c.2 M ab G;rw[<-R]at aa;have ae:A.K<=256:=by rw[R];exact T.2
    by_cases y:96<cnt (alB A) A.N
    ·refine⟨9,0,λ_=>[],⟨λ_=>by simp,by omega,λF C ad cap w h=>(Y F C ad cap w h).mono ?_,λad cap w h=>(Z ad cap w h).mono ?_⟩,λh=>by cases h⟩
     ·rintro en w' ⟨z,v⟩;rcases v with ⟨_,E⟩|⟨I,J,X,d,g,p⟩
      ·exact absurd E q
      obtain⟨rfl,rfl⟩:=WS.one_end T.1 G g;rw[<-R]at d;subst d;rcases p with ⟨_,rfl⟩|⟨p,_⟩
      ·exact Q4 rfl z
      exact absurd y p
     rintro en w' ⟨z,v⟩;rcases v with ⟨_,E⟩|⟨I,J,X,nx,O,d,g,_,hO,p⟩
     ·exact absurd E q
     obtain⟨rfl,rfl⟩:=WS.one_end T.1 G g;rw[<-R]at d;subst d;rcases p with ⟨_,rfl⟩|⟨p,_⟩
     ·exact Q5 rfl z
     exact absurd y (by rw[hO]at p;exact p)
    refine⟨0,n,Sy es n A,⟨DL es n A ae y,c.2,λF C ad cap w h=>(Y F C ad cap w h).mono ?_,λad cap w h=>(Z ad cap w h).mono ?_⟩,λ_=>⟨rfl,c.1,c.2,es,l,t,A,ab,M,G,R,y,rfl⟩⟩
    ·rintro en w' ⟨z,v⟩;rcases v with ⟨_,E⟩|⟨I,J,X,d,g,p⟩
     ·exact absurd E q
     obtain⟨rfl,rfl⟩:=WS.one_end T.1 G g;rw[<-R]at d;subst d;rcases p with ⟨p,_⟩|⟨_,vc,vl,vn,kf,rfl,hk,o1,o2,o3,n1,n2,n3⟩
     ·exact absurd p y
     exact DQ z hk o1 o2 o3 n1 n2 n3
    rintro en w' ⟨z,v⟩;rcases v with ⟨_,E⟩|⟨I,J,X,nx,O,d,g,ac,hO,p⟩
    ·exact absurd E q
    obtain⟨rfl,rfl⟩:=WS.one_end T.1 G g;rw[<-R]at d;subst d;subst hO;rcases p with ⟨p,_⟩|⟨_,m,B,rfl,hM⟩
    ·exact absurd p y
    exact DV z (by rw[ac];exact aa) hM
   refine⟨8,0,λ_=>[],⟨λ_=>by simp,by omega,λF C ad cap w h=>(Y F C ad cap w h).mono ?_,λad cap w h=>(Z ad cap w h).mono ?_⟩,λh=>by cases h⟩
   ·rintro en w' ⟨z,v⟩;rcases v with ⟨_,E⟩|⟨I,J,X,d,g,p⟩
    ·exact absurd E q
    exact absurd ⟨I,J,g⟩ D
   rintro en w' ⟨z,v⟩;rcases v with ⟨_,E⟩|⟨I,J,X,nx,O,d,g,ac,hO,p⟩
   ·exact absurd E q
   exact absurd ⟨I,J,g⟩ D
  refine⟨e,0,λ_=>[],⟨λ_=>by simp,by omega,λF C ad cap w h=>?_,λad cap w h=>?_⟩,λh=>absurd h he⟩
  ·obtain⟨b,o,rfl,H,P⟩:=h c.1;have S:∀W,Bl w W->_:=λW U=>PX b o cap n f e r a W c.1 c.2 (ZH H U.size) hm (P.below H U) hP
   have h3:Cp F #[.slice (some (a_ b o)) n cap] w λen w'=>en=.returned (.tuple #[.agg XL.toArray,I6 e])/\Bl w w':=by
    rcases C with rfl|rfl
    ·exact SZ _ e r a w he S
    exact RF _ e r a w he S
   refine h3.mono ?_;rintro en w' ⟨h1,h2⟩;exact Q4 h1 h2
  obtain⟨b,o,rfl,H,P⟩:=h c.1;refine(Om _ e r a w he (λW U=>P0 b o cap n f e r a W c.1 c.2 (ZH H U.size) hm (P.below H U) S)).mono ?_;rintro en w' ⟨h1,h2⟩;exact Q5 h1 h2
 have Q:n=0\/8<n:=by omega
 refine⟨1,0,λ_=>[],⟨λ_=>by simp,by omega,λF C ad cap w h=>?_,λad cap w h=>?_⟩,λh=>by cases h⟩
 ·have S:∀W,Bl w W->Cp 124 #[.slice ad n cap] W λe' w'=>e'=.returned (.tuple #[I6 1,I6 0,I6 0])/\Bl W w':=λW U=>(LC ad n cap W hn Q).mono (by rintro e' w' ⟨rfl,rfl⟩;exact⟨rfl,Zk _ _⟩)
  have h3:Cp F #[.slice ad n cap] w λen w'=>en=.returned (.tuple #[.agg XL.toArray,I6 1])/\Bl w w':=by
   rcases C with rfl|rfl
   ·exact SZ _ 1 0 0 w (by omega) S
   exact RF _ 1 0 0 w (by omega) S
  refine h3.mono ?_;rintro en w' ⟨h1,h2⟩;exact Q4 h1 h2
 refine(Om _ 1 0 0 w (by omega) (λW U=>(LQ ad n cap W hn Q).mono ?_)).mono ?_
 ·rintro e' w' ⟨rfl,rfl⟩;exact⟨rfl,Zk _ _⟩
 rintro en w' ⟨h1,h2⟩;exact Q5 h1 h2
end
end Go.Proofs.YtoaaklhpmhjhkaaGreat
