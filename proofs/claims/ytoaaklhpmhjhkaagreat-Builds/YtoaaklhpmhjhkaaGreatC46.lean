import Derived.Test.YtoaaklhpmhjhkaaGreatC44
import Derived.Test.YtoaaklhpmhjhkaaGreatC45
set_option maxRecDepth 100000
set_option maxHeartbeats 4000000
set_option linter.all false
namespace Go.Proofs.YtoaaklhpmhjhkaaGreat
open Go.RowKit
open Bm
theorem q5l (v:Value) (e r a:Int) (w:World) (he:e≠0) (hC:∀W,Below w.heap.size w W->Calls Tryz.prog 26 #[v] W λe' w'=>e'=.returned (.tuple #[.int .i64 e,.int .i64 r,.int .i64 a])/\Below W.heap.size W w'):
  Calls Tryz.prog 10 #[v] w λen w'=>en=.returned (.tuple #[.agg macZ.toArray,.int .i64 e])/\Below w.heap.size w w':=by
 have t:=q1i;have p:(e != 0)=true:=by simp[he]
 obtain⟨W0,b⟩:=nam (w.alloc (.cells #[.int .i64 0,.slice none 0 0,.slice none 0 0,.slice none 0 0] 25));have T0:TC w.heap.size macZ W0:=by rw[b];exact TC.boxed w macZ _
 have B0:Below w.heap.size w W0:=by rw[b];exact box_bel _ _
 have j:W0.heap.size=w.heap.size+1:=by rw[b];simp
 have n:=hyd (hC W0 B0);have g:=hyd b;have i:=hyd j;clear b j hC he;go_enter Tryz.func10,Tryz.ntmps10;go_wp2_with fail;rw[<-g.out];refine n.out.mono ?_;rintro en w2 ⟨rfl,k⟩;have o:=T0.block (k.block _ (by have:=i.out;omega));have f:Below w.heap.size w w2:=B0.trans (k.mono (by have:=i.out;omega));obtain⟨q,m,c,_⟩:=q1e (.int .i64 0) (.slice none 0 0) (.slice none 0 0) (.slice none 0 0) o f;obtain⟨s,d⟩:=nam (w2.setCells w.heap.size 0 [.int .i64 0,.slice none 0 0,.slice none 0 0,.slice none 0 0]);rw[<-d]at m c;have l:=hyd d;have h:=hyd c;clear d c o f k B0 T0 n g;go_wp2_with (first|(with_reducible refine gst 25 ?_;refine Stop.out ?_));refine⟨?_⟩;refine wpList_store_mid rfl 25 _ _ rfl w.heap.size 0 #[.int .i64 0,.slice none 0 0,.slice none 0 0,.slice none 0 0] rfl rfl q q0D (by simp[Value.oneCell']) ?_;rw[List.toList_toArray,<-l.out];go_wp2_with fail;refine bodyPost_ret (v:=.tuple #[.agg #[.int .i64 0,.slice none 0 0,.slice none 0 0,.slice none 0 0],.int .i64 e]) (q0L Tryz.results10 rfl h.out rfl) rfl ?_;exact⟨rfl,m⟩
theorem y3t (es:Nat->Rx) (n:Nat) (h1:1<=n) (h8:n<=8) (hP:netN es n<=96) (hf:∀k,k<n->(es k).Full) {l:List (Nat->Bool)}{t:List Int} (h:Exp (aftN es n) (netF es n) (kdN es n) l.length 0 l t):
  Pn (autOf l t (kdN es n).length) (Kq (netH es n) (netN es n)) (λi b=>t.getD (i*(kdN es n).length+idx (Kq (netH es n) (netN es n)) b) (-1)):=
 ⟨q3D _ _ _,rfl,λ_ _ _ _=>rfl,q5C (q8H es n h1 h8 hP hf) (q8I es n h8 hP) (q8N _ _) h,y0Z (q3M _ _).1 h⟩
theorem y1A (es:Nat->Rx) {k n:Nat} (hk:k<n):(es k).sz<=netN es n:=by
 have:=q0M es (show k+1<=n from hk);simp only[netN]at this;omega
theorem q7M (b off cap n:Nat) (f:Nat->ByteArray) (w:World) (h1:1<=n) (h8:n<=8) (hb:b<w.heap.size) (hm:∀i,i<n->(f i).size<=maxLen) (hr:SRow b off f n w) (hok:∀j,j<n->(Pg.wrong (bat (f j)) (f j).size).1=0) (hsum:¬96<sumTo (λj=>placesP (f j)) n):
  Calls Tryz.prog 10 #[.slice (some ⟨b,off,none⟩) n cap] w (RBPost (λj=>rxOf (f j)) n w):=by
 obtain⟨es,d⟩:∃es:Nat->Rx,es=λj=>rxOf (f j):=⟨_,rfl⟩
 have p:∀j,j<n->(Pg.readParts (bat (f j)) (f j).size).ok=true:=λj y=>((q0N (f j)).2 (hok j y)).2.2
 have q:∀j,j<n->(f j).size<=40:=λj y=>((q0N (f j)).2 (hok j y)).2.1
 have c:=(q6i es (λj=>placesP (f j)) n (λi m=>by rw[d];exact q3i (f i) (p i m)) hsum).2;have x:∀k,k<n->(es k).Full:=λk J=>by rw[d];exact q7H (f k) (hok k J)
 have v:CheckIs f n 0 0 0:=by
  obtain⟨e,r,a,K,A⟩:=agree f n;rcases K with ⟨i,m,_,C,D,_⟩|⟨_,rfl,rfl,z⟩
  ·exfalso;have:=hok i m;rw[C]at this;exact D this
  rw[if_neg hsum]at z;rw[z]at A;exact A
 rw[<-d];refine y0h b off cap n es w h8 c (λW o=>?_) (λW o=>?_) (λl t h=>y3t es n h1 h8 c x h) (λW pb vd nx bs N L M O ra R rows H G I s F u=>q8c pb N vd nx bs L M O ra R rows n W H G I s F u h8)
 ·refine(q4w b off cap n f 0 0 0 W h1 h8 (Nat.lt_of_lt_of_le hb o.size) hm (hr.below hb o) v).mono ?_;rintro e' w' ⟨rfl,E⟩;exact⟨⟨0,0,rfl⟩,E⟩
 refine q8m b off cap n f es W h8 (Nat.lt_of_lt_of_le hb o.size) (hr.below hb o) (λi m w'=>?_) c;obtain⟨S,g,P,_,_,Q⟩:=q3g (f i) (p i m);have B:es i=rxOf (f i):=by rw[d]
 rw[B];refine y1K Q (f i) P.symm (q i m) ?_ w';rw[<-B];have:=y1A es m;omega
end Go.Proofs.YtoaaklhpmhjhkaaGreat
namespace Go.Proofs.YtoaaklhpmhjhkaaGreat
open Go.RowKit
open Bm Bu
def tri {α:Type} (a b c:α) (i:Nat):α:=match i with|1=>a|2=>b|_=>c
theorem q2l {P:Nat->Prop} (h1:P 1) (h2:P 2) (h3:P 3):∀i,1<=i->i<=3->P i:=λi a b=>by
 have:i=1\/i=2\/i=3:=by omega
 rcases this with rfl|rfl|rfl<;>assumption
def PAns (e:Int) (r:Nat) (L:Nat->List Int) (w:World) (en:Ending) (w':World):Prop:=
 Below w.heap.size w w'/\∃vv:Nat->Value,en=.returned (.tuple #[.agg (triC r vv),.int .i64 e])/\(∀i,1<=i->i<=3->OwnL w.heap.size (vv i) (L i) w')/\∀i j,1<=i->i<=3->1<=j->j<=3->i≠j->∀k,(vv i).ownBlock=some k->(vv j).ownBlock≠some k
def RAns (e:Int) (r:Nat) (L:Nat->List Int) (w:World) (en:Ending) (w':World):Prop:=
 Below w.heap.size w w'/\∃(a:Nat->Option Addr) (c:Nat->Nat),en=.returned (.tuple #[.agg (triC r (λi=>.slice (a i) (L i).length (c i))),.int .i64 e])/\∀i,1<=i->i<=3->IL (a i) (λj=>(L i).getD j 0) (L i).length w'
def Had (ad:Option Addr) (n:Nat) (f:Nat->ByteArray) (w:World):Prop:=1<=n->∃b off,ad=some ⟨b,off,none⟩/\b<w.heap.size/\SRow b off f n w
variable {B b n off : Nat}{f' : Nat → ByteArray}{kf : Nat → Int}{E : Nat → Nat → Bool}{nx : Nat → Nat → Int}{vv : Nat → Value}{ad : Option Addr}{vc vl vn : Value}{w w' : World}
theorem Had.below {f:Nat->ByteArray} (h:Had ad n f w) (hW:Below w.heap.size w w'):Had ad n f w':=λc=>by
 obtain⟨b,off,d,a,e⟩:=h c;exact⟨b,off,d,Nat.lt_of_lt_of_le a hW.size,e.below a hW⟩
variable {en : Ending}
theorem q4b {e:Int} (he:en=.returned (.tuple #[.agg macZ.toArray,.int .i64 e])) (hB:Below w.heap.size w w'):PAns e 0 (λ_=>[]) w en w':=
 ⟨hB,λ_=>.slice none 0 0,he,λ_ _ _=>OwnL.nil _ _,λ_ _ _ _ _ _ _ _ a=>by cases a⟩
theorem q4a {e:Int} (he:en=.returned (.tuple #[.agg macZ.toArray,.int .i64 e])) (hB:Below w.heap.size w w'):RAns e 0 (λ_=>[]) w en w':=
 ⟨hB,λ_=>none,λ_=>0,he,λ_ _ _ j a=>absurd a (Nat.not_lt_zero j)⟩
def OneAns (n:Nat) (f:Nat->ByteArray) (e:Int) (r:Nat) (L:Nat->List Int):Prop:=
 (∀i,(L i).length<=1000000)/\r<=8 /\
 (∀F,F=22\/F=34->∀ad cap w,Had ad n f w->Calls Tryz.prog F #[.slice ad n cap] w (PAns e r L w)) /\
 (∀ad cap w,Had ad n f w->Calls Tryz.prog 10 #[.slice ad n cap] w (RAns e r L w))
theorem q9K {kg:Nat->Int} (h:∀b,b<n->kf b=kg b):clsL E kf n=clsL E kg n:=by
 unfold clsL;exact List.map_congr_left (λb a=>by rw[h b (List.mem_range.1 a)])
noncomputable def mcL (es:Nat->Rx) (n:Nat) (A:Aut):Nat->List Int:=tri (clsL (Cl (rwOf A (alB A)) (cnt (alB A) A.N)) (kdF es n) 256) (labL A (alB A) (cnt (alB A) A.N)) (nxtL (rwOf A (alB A)) (reps (Cl (rwOf A (alB A)) (cnt (alB A) A.N)) A.K) (cnt (alB A) A.N))
theorem y2K (es:Nat->Rx) (n:Nat) (A:Aut) (hK:A.K<=256) (h96:¬96<cnt (alB A) A.N) (i:Nat):(mcL es n A i).length<=1000000:=by
 unfold mcL tri;split
 ·rw[q3z];omega
 ·rw[q3o];omega
 rw[q3k];have a:(reps (Cl (rwOf A (alB A)) (cnt (alB A) A.N)) A.K).length<=256:=Nat.le_trans (cnt_le _ _) hK;have b:cnt (alB A) A.N*(reps (Cl (rwOf A (alB A)) (cnt (alB A) A.N)) A.K).length<=96*256:=Nat.mul_le_mul (by omega) a;omega
variable {A : Aut}{es : Nat → Rx}
theorem y2F (hB:Below w.heap.size w w') (hk:∀b,b<256->kf b=kdF es n b) (o1:OwnL w.heap.size vc (clsL (Cl (rwOf A (alB A)) (cnt (alB A) A.N)) kf 256) w') (o2:OwnL w.heap.size vl (labL A (alB A) (cnt (alB A) A.N)) w') (o3:OwnL w.heap.size vn (nxtL (rwOf A (alB A)) (reps (Cl (rwOf A (alB A)) (cnt (alB A) A.N)) A.K) (cnt (alB A) A.N)) w')
  (n1:∀k,vc.ownBlock=some k->vl.ownBlock≠some k) (n2:∀k,vc.ownBlock=some k->vn.ownBlock≠some k) (n3:∀k,vl.ownBlock=some k->vn.ownBlock≠some k):PAns 0 n (mcL es n A) w (.returned (.tuple #[.agg #[.int .i64 n,vc,vl,vn],.int .i64 0])) w':=by
 rw[q9K hk]at o1;refine⟨hB,tri vc vl vn,rfl,q2l o1 o2 o3,?_⟩;refine q2l (P:=λi=>∀j,1<=i->i<=3->1<=j->j<=3->i≠j->∀k,(tri vc vl vn i).ownBlock=some k->(tri vc vl vn j).ownBlock≠some k) ?_ ?_ ?_ |> λh i j d f a c=>h i d f j d f a c
 ·intro j _ _ a c;exact q2l (P:=λj=>1≠j->∀k,vc.ownBlock=some k->(tri vc vl vn j).ownBlock≠some k) (λh=>absurd rfl h) (λ_=>n1) (λ_=>n2) j a c
 ·intro j _ _ a c;exact q2l (P:=λj=>2≠j->∀k,vl.ownBlock=some k->(tri vc vl vn j).ownBlock≠some k) (λ_ k h e=>n1 k e h) (λh=>absurd rfl h) (λ_=>n3) j a c
 intro j _ _ a c;exact q2l (P:=λj=>3≠j->∀k,vn.ownBlock=some k->(tri vc vl vn j).ownBlock≠some k) (λ_ k h e=>n2 k e h) (λ_ k h e=>n3 k e h) (λh=>absurd rfl h) j a c
theorem y2C {m:Value} (hB:Below w.heap.size w w') (hP:Pn A (Kq (netH es n) (netN es n)) nx) (hM:MaI n (reps (alB A) A.N) (rwB A nx (reps (alB A) A.N)) A.vd B (.returned m) w'):RAns 0 n (mcL es n A) w (.returned (.tuple #[m,.int .i64 0])) w':=by
 obtain⟨c,d,k,lc,l,nc,o,_,e,f,a⟩:=hM;cases o;obtain⟨s,t,u⟩:=q9z hP (kdF es n) (λ_ _=>rfl);have p:(reps (alB A) A.N).length=cnt (alB A) A.N:=rfl;rw[p]at e f a ⊢;rw[t]at a ⊢;rw[u]at a;have j:(mcL es n A 3).length=cnt (alB A) A.N*cnt (Cl (rwOf A (alB A)) (cnt (alB A) A.N)) A.K:=by show(nxtL _ _ _).length=_;rw[q3k];rfl
 have h:(mcL es n A 2).length=cnt (alB A) A.N:=q3o _ _ _;have g:(mcL es n A 1).length=256:=q3z _ _ _;refine⟨hB,tri c k l,tri d lc nc,?_,?_⟩
 ·show _=Ending.returned (.tuple #[.agg #[.int .i64 n,.slice c (mcL es n A 1).length d,.slice k (mcL es n A 2).length lc,.slice l (mcL es n A 3).length nc],.int .i64 0]);rw[g,h,j]
 refine q2l ?_ ?_ ?_
 ·rw[g];exact e.congr (λb q=>(s b q).symm)
 ·rw[h];refine f.congr (λi r=>?_);show _=(labL A (alB A) (cnt (alB A) A.N)).getD i 0;simp[labL,List.getD_eq_getElem?_getD,r]
 rw[j];exact a
def Got (n r:Nat) (L:Nat->List Int):Prop:=r=n/\1<=n/\n<=8/\∃(es:Nat->Rx) (l:List (Nat->Bool)) (t:List Int) (A:Aut),(∀k,k<n->(es k).Full)/\netN es n<=96/\Exp (aftN es n) (netF es n) (kdN es n) l.length 0 l t/\A=autOf l t (kdN es n).length/\¬96<cnt (alB A) A.N/\L=mcL es n A
theorem y3H (n:Nat) (f:Nat->ByteArray) (hn:n<=maxLen) (hm:∀i,i<n->(f i).size<=maxLen):∃e r L,OneAns n f e r L/\(e=0->Got n r L):=by
 by_cases c:1<=n/\n<=8
 ·obtain⟨e,r,a,hP,T⟩:=agree f n;by_cases he:e=0
  ·subst he;have q:(∀j,j<n->(Pg.wrong (bat (f j)) (f j).size).1=0)/\¬96<sumTo (λj=>placesP (f j)) n:=by
    rcases hP with ⟨i,_,_,_,h3,_⟩|⟨H,_,_,h4⟩
    ·exact absurd rfl h3
    refine⟨H,λh=>?_⟩;rw[if_pos h]at h4;cases h4
   obtain⟨q,v⟩:=q;have Z:∀F,F=22\/F=34->∀ad cap w,Had ad n f w->Calls Tryz.prog F #[.slice ad n cap] w (MBPost (λj=>rxOf (f j)) n w):=λF z ad cap w h=>by
    obtain⟨b,off,rfl,G,P⟩:=h c.1;rcases z with rfl|rfl
    ·exact q6k b off cap n f w c.1 c.2 G hm P q v
    exact q7l b off cap n f w c.1 c.2 G hm P q v
   have RB:∀ad cap w,Had ad n f w->Calls Tryz.prog 10 #[.slice ad n cap] w (RBPost (λj=>rxOf (f j)) n w):=λad cap w h=>by
    obtain⟨b,off,rfl,G,P⟩:=h c.1;exact q7M b off cap n f w c.1 c.2 G hm P q v
   have af:∀j,j<n->(Pg.readParts (bat (f j)) (f j).size).ok=true:=λj hj=>((q0N (f j)).2 (q j hj)).2.2
   obtain⟨es,X⟩:∃es:Nat->Rx,es=λj=>rxOf (f j):=⟨_,rfl⟩
   have M:=(q6i es (λj=>placesP (f j)) n (λi hi=>by rw[X];exact q3i (f i) (af i hi)) v).2;have ab:∀k,k<n->(es k).Full:=λk hk=>by rw[X];exact q7H (f k) (q k hk)
   rw[<-X]at Z RB;have U:=q3M (netH es n) (netN es n);by_cases p:Ov (aftN es n) (netF es n) (kdN es n)
   ·refine⟨8,0,λ_=>[],⟨λ_=>by simp,by omega,λF z ad cap w h=>(Z F z ad cap w h).mono ?_,λad cap w h=>(RB ad cap w h).mono ?_⟩,λh=>by cases h⟩
    ·rintro en w' ⟨y,u⟩;rcases u with ⟨rfl,_⟩|⟨l,t,A,_,E,_⟩
     ·exact q4b rfl y
     obtain⟨s,k,I,J,f2,b2,x1,x2,x3,x4⟩:=p;exact(Exp.not_both U.1 E x1 x2 x3 x4).elim
    rintro en w' ⟨y,u⟩;rcases u with ⟨rfl,_⟩|⟨l,t,A,nx,O,_,E,_⟩
    ·exact q4a rfl y
    obtain⟨s,k,I,J,f2,b2,x1,x2,x3,x4⟩:=p;exact(Exp.not_both U.1 E x1 x2 x3 x4).elim
   by_cases C:∃l t,Exp (aftN es n) (netF es n) (kdN es n) l.length 0 l t
   ·obtain⟨l,t,E⟩:=C;obtain⟨A,S⟩:=nam (autOf l t (kdN es n).length);have aa:=y3t es n c.1 c.2 M ab E;rw[<-S]at aa;have ae:A.K<=256:=by rw[S];exact U.2
    by_cases x:96<cnt (alB A) A.N
    ·refine⟨9,0,λ_=>[],⟨λ_=>by simp,by omega,λF z ad cap w h=>(Z F z ad cap w h).mono ?_,λad cap w h=>(RB ad cap w h).mono ?_⟩,λh=>by cases h⟩
     ·rintro en w' ⟨y,u⟩;rcases u with ⟨_,D⟩|⟨I,J,Y,d,g,o⟩
      ·exact absurd D p
      obtain⟨rfl,rfl⟩:=Exp.one_end U.1 E g;rw[<-S]at d;subst d;rcases o with ⟨_,rfl⟩|⟨o,_⟩
      ·exact q4b rfl y
      exact absurd x o
     rintro en w' ⟨y,u⟩;rcases u with ⟨_,D⟩|⟨I,J,Y,nx,O,d,g,_,hO,o⟩
     ·exact absurd D p
     obtain⟨rfl,rfl⟩:=Exp.one_end U.1 E g;rw[<-S]at d;subst d;rcases o with ⟨_,rfl⟩|⟨o,_⟩
     ·exact q4a rfl y
     exact absurd x (by rw[hO]at o;exact o)
    refine⟨0,n,mcL es n A,⟨y2K es n A ae x,c.2,λF z ad cap w h=>(Z F z ad cap w h).mono ?_,λad cap w h=>(RB ad cap w h).mono ?_⟩,λ_=>⟨rfl,c.1,c.2,es,l,t,A,ab,M,E,S,x,rfl⟩⟩
    ·rintro en w' ⟨y,u⟩;rcases u with ⟨_,D⟩|⟨I,J,Y,d,g,o⟩
     ·exact absurd D p
     obtain⟨rfl,rfl⟩:=Exp.one_end U.1 E g;rw[<-S]at d;subst d;rcases o with ⟨o,_⟩|⟨_,vc,vl,vn,kf,rfl,hk,o1,o2,o3,n1,n2,n3⟩
     ·exact absurd o x
     exact y2F y hk o1 o2 o3 n1 n2 n3
    rintro en w' ⟨y,u⟩;rcases u with ⟨_,D⟩|⟨I,J,Y,nx,O,d,g,ac,hO,o⟩
    ·exact absurd D p
    obtain⟨rfl,rfl⟩:=Exp.one_end U.1 E g;rw[<-S]at d;subst d;subst hO;rcases o with ⟨o,_⟩|⟨_,m,B,rfl,hM⟩
    ·exact absurd o x
    exact y2C y (by rw[ac];exact aa) hM
   refine⟨8,0,λ_=>[],⟨λ_=>by simp,by omega,λF z ad cap w h=>(Z F z ad cap w h).mono ?_,λad cap w h=>(RB ad cap w h).mono ?_⟩,λh=>by cases h⟩
   ·rintro en w' ⟨y,u⟩;rcases u with ⟨_,D⟩|⟨I,J,Y,d,g,o⟩
    ·exact absurd D p
    exact absurd ⟨I,J,g⟩ C
   rintro en w' ⟨y,u⟩;rcases u with ⟨_,D⟩|⟨I,J,Y,nx,O,d,g,ac,hO,o⟩
   ·exact absurd D p
   exact absurd ⟨I,J,g⟩ C
  refine⟨e,0,λ_=>[],⟨λ_=>by simp,by omega,λF z ad cap w h=>?_,λad cap w h=>?_⟩,λh=>absurd h he⟩
  ·obtain⟨b,off,rfl,G,P⟩:=h c.1;have T:∀W,Below w.heap.size w W->_:=λW V=>q4z b off cap n f e r a W c.1 c.2 (Nat.lt_of_lt_of_le G V.size) hm (P.below G V) hP
   have h3:Calls Tryz.prog F #[.slice (some ⟨b,off,none⟩) n cap] w λen w'=>en=.returned (.tuple #[.agg macZ.toArray,.int .i64 e])/\Below w.heap.size w w':=by
    rcases z with rfl|rfl
    ·exact q2N _ e r a w he T
    exact q3L _ e r a w he T
   refine h3.mono ?_;rintro en w' ⟨H,R⟩;exact q4b H R
  obtain⟨b,off,rfl,G,P⟩:=h c.1;refine(q5l _ e r a w he (λW V=>q4w b off cap n f e r a W c.1 c.2 (Nat.lt_of_lt_of_le G V.size) hm (P.below G V) T)).mono ?_;rintro en w' ⟨H,R⟩;exact q4a H R
 have Q:n=0\/8<n:=by omega
 refine⟨1,0,λ_=>[],⟨λ_=>by simp,by omega,λF z ad cap w h=>?_,λad cap w h=>?_⟩,λh=>by cases h⟩
 ·have T:∀W,Below w.heap.size w W->Calls Tryz.prog 124 #[.slice ad n cap] W λe' w'=>e'=.returned (.tuple #[.int .i64 1,.int .i64 0,.int .i64 0])/\Below W.heap.size W w':=λW V=>(q7e ad n cap W hn Q).mono (by rintro e' w' ⟨rfl,rfl⟩;exact⟨rfl,Below.refl _ _⟩)
  have h3:Calls Tryz.prog F #[.slice ad n cap] w λen w'=>en=.returned (.tuple #[.agg macZ.toArray,.int .i64 1])/\Below w.heap.size w w':=by
   rcases z with rfl|rfl
   ·exact q2N _ 1 0 0 w (by omega) T
   exact q3L _ 1 0 0 w (by omega) T
  refine h3.mono ?_;rintro en w' ⟨H,R⟩;exact q4b H R
 refine(q5l _ 1 0 0 w (by omega) (λW V=>(q6Z ad n cap W hn Q).mono ?_)).mono ?_
 ·rintro e' w' ⟨rfl,rfl⟩;exact⟨rfl,Below.refl _ _⟩
 rintro en w' ⟨H,R⟩;exact q4a H R
theorem SRow.congr {f:Nat->ByteArray} (h:SRow b off f n w) (e:∀i,i<n->f i=f' i):SRow b off f' n w:=λi a=>by
 rw[h i a,e i a]
def BtPost (r:Nat) (L:Nat->List Int) (w:World) (en:Ending) (w':World):Prop:=
 Below w.heap.size w w'/\∃vv:Nat->Value,en=.returned (.tuple #[.agg (triC r vv),.bool true])/\(∀i,1<=i->i<=3->OwnL w.heap.size (vv i) (L i) w')/\∀i j,1<=i->i<=3->1<=j->j<=3->i≠j->∀k,(vv i).ownBlock=some k->(vv j).ownBlock≠some k
theorem q2s (r:Int) (a:Nat->Option Addr) (m c:Nat->Nat):triC r (λi=>.slice (a i) (m i) (c i))=#[.int .i64 r,.slice (a 1) (m 1) (c 1),.slice (a 2) (m 2) (c 2),.slice (a 3) (m 3) (c 3)]:=rfl
theorem y0n {L:Nat->List Int} (h:∀i,1<=i->i<=3->OwnL B (vv i) (L i) w):∃(a:Nat->Option Addr) (c:Nat->Nat),(∀r:Int,triC r vv=triC r (λi=>.slice (a i) (L i).length (c i)))/\(∀i,1<=i->i<=3->vv i=.slice (a i) (L i).length (c i))/\∀i,1<=i->i<=3->IL (a i) (λj=>(L i).getD j 0) (L i).length w:=by
 obtain⟨e,c1,b,k⟩:=(h 1 (by omega) (by omega)).il;obtain⟨f,c2,e2,l⟩:=(h 2 (by omega) (by omega)).il;obtain⟨g,c3,d,m⟩:=(h 3 (by omega) (by omega)).il;refine⟨tri e f g,tri c1 c2 c3,λr=>?_,q2l b e2 d,q2l k l m⟩;unfold triC;rw[b,e2,d];rfl
theorem y0Q (ad:Option Addr) (n cap:Nat) (f:Nat->ByteArray) (e:Int) (r:Nat) (L:Nat->List Int) (w:World) (hn:n+3<=17592186044416) (hO:OneAns n f e r L) (had:Had ad n f w):
  Calls Tryz.prog 7 #[.slice ad n cap] w (BtPost r L w):=by
 have hz:=q1i;obtain⟨W0,A⟩:=nam (w.alloc (.cells #[.int .i64 0,.slice none 0 0,.slice none 0 0,.slice none 0 0] 25));have T0:TC w.heap.size macZ W0:=by rw[A];exact TC.boxed w macZ _
 have B0:Below w.heap.size w W0:=by rw[A];exact box_bel _ _
 have E:W0.heap.size=w.heap.size+1:=by rw[A];simp
 have HH:Hid (Calls Tryz.prog 21 #[.slice ad n cap] W0 λe w'=>e=.returned (.slice (some ⟨W0.heap.size,0,none⟩) n (n+3))/\WRow W0.heap.size (handed f n) (n+3) w'/\Below W0.heap.size W0 w'):=by
  show Calls _ _ _ _ _;by_cases h1:1<=n
  ·obtain⟨b,off,rfl,hb,hS⟩:=had.below B0 h1;exact q8j b off n cap f W0 hn hb hS
  have:n=0:=by omega
  subst this;exact q8k ad cap f W0
 have HO:=hyd hO;have ai:=hyd (had.below B0);have H0:=hyd3 T0 B0 E;have ah:=hyd A;have aw:(e==e)=true:=by simp
 clear A T0 B0 E hO had;go_enter Tryz.func7,Tryz.ntmps7;go_wp2_with fail;rw[<-ah.out];clear ah;refine HH.out.mono ?_;rintro en w1 ⟨rfl,hR,N⟩;have hg:W0.heap.size<w1.heap.size:=World.block_lt_of_cell? w1 _ (hR 0 (by omega)).1;have G:=hyd (ai.out.below N);have H:Had (some ⟨W0.heap.size,0,none⟩) n f w1:=λ_=>⟨_,0,rfl,hg,(hR.srow (by omega)).congr (λi hi=>by simp[handed,hi])⟩
 have HP:Hid (Calls Tryz.prog 22 #[.slice (some ⟨W0.heap.size,0,none⟩) n (n+3)] w1 (PAns e r L w1)):=HO.out.2.2.1 _ (Or.inl rfl) _ _ w1 H;have HR:Hid (WRow W0.heap.size (handed f n) (n+3) w1/\Below W0.heap.size W0 w1):=⟨hR,N⟩;clear hR N HH H;go_wp2_with fail;refine HP.out.mono ?_;rintro en w2 ⟨al,vv,rfl,M,ak⟩;obtain⟨a,c,e1,e2,am⟩:=y0n M;rw[e1];have HV:Hid ((∀i,1<=i->i<=3->vv i=.slice (a i) (L i).length (c i))/\(∀i,1<=i->i<=3->OwnL w1.heap.size (vv i) (L i) w2)/\(∀i j,1<=i->i<=3->1<=j->j<=3->i≠j->∀k,(vv i).ownBlock=some k->(vv j).ownBlock≠some k)/\(∀i,1<=i->i<=3->IL (a i) (λj=>(L i).getD j 0) (L i).length w2)/\(∀r:Int,triC r vv=triC r (λi=>.slice (a i) (L i).length (c i)))):=⟨e2,M,ak,am,e1⟩;have J:Hid (Below w1.heap.size w1 w2):=al;clear e1 e2 am M ak al HP;rw[q2s r a (λi=>(L i).length) c];obtain⟨l,ac⟩:∃l,l=(L 1).length:=⟨_,rfl⟩;obtain⟨m,ae⟩:∃m,m=(L 2).length:=⟨_,rfl⟩;obtain⟨p,af⟩:∃p,p=(L 3).length:=⟨_,rfl⟩;obtain⟨s,P⟩:∃s,s=a 1:=⟨_,rfl⟩;obtain⟨t,Q⟩:∃t,t=a 2:=⟨_,rfl⟩;obtain⟨u,R⟩:∃u,u=a 3:=⟨_,rfl⟩;obtain⟨c1,V⟩:∃c1,c1=c 1:=⟨_,rfl⟩;obtain⟨c2,X⟩:∃c2,c2=c 2:=⟨_,rfl⟩;obtain⟨c3,Y⟩:∃c3,c3=c 3:=⟨_,rfl⟩;rw[<-ac,<-ae,<-af,<-P,<-Q,<-R,<-V,<-X,<-Y];have z:Hid (l=(L 1).length/\m=(L 2).length/\p=(L 3).length/\s=a 1/\t=a 2/\u=a 3/\c1=c 1/\c2=c 2/\c3=c 3):=⟨ac,ae,af,P,Q,R,V,X,Y⟩;clear ac ae af P Q R V X Y;obtain⟨y,C⟩:∃W,W=w2.alloc (.cells #[.int .i64 r,.slice s l c1,.slice t m c2,.slice u p c3] 25):=⟨_,rfl⟩;have D:Below w2.heap.size w2 y:=by rw[C];exact box_bel _ _
 have K:TC w2.heap.size [.int .i64 r,.slice s l c1,.slice t m c2,.slice u p c3] y:=by rw[C];exact TC.boxed w2 _ _
 have x:y.heap.size=w2.heap.size+1:=by rw[C];simp
 have g:Below w1.heap.size w1 y:=J.out.trans (D.mono J.out.size);have ao:Hid (Calls Tryz.prog 10 #[.slice ad n cap] y (RAns e r L y)):=HO.out.2.2.2 _ _ y (G.out.below g);have au:Hid (y=w2.alloc (.cells #[.int .i64 r,.slice s l c1,.slice t m c2,.slice u p c3] 25)):=C;have H3:Hid (Below w2.heap.size w2 y/\TC w2.heap.size [.int .i64 r,.slice s l c1,.slice t m c2,.slice u p c3] y/\y.heap.size=w2.heap.size+1/\Below w1.heap.size w1 y):=⟨D,K,x,g⟩;clear C D K x g;go_wp2_with fail;rw[<-au.out];refine ao.out.mono ?_;rintro en w4 ⟨B4,a',c',rfl,an⟩;rw[q2s r a' (λi=>(L i).length) c'];obtain⟨b1,S⟩:∃b1,b1=a' 1:=⟨_,rfl⟩;obtain⟨b2,T⟩:∃b2,b2=a' 2:=⟨_,rfl⟩;obtain⟨b3,U⟩:∃b3,b3=a' 3:=⟨_,rfl⟩;obtain⟨d1,Z⟩:∃d1,d1=c' 1:=⟨_,rfl⟩;obtain⟨d2,aa⟩:∃d2,d2=c' 2:=⟨_,rfl⟩;obtain⟨d3,ab⟩:∃d3,d3=c' 3:=⟨_,rfl⟩;rw[<-z.out.1,<-z.out.2.1,<-z.out.2.2.1,<-S,<-T,<-U,<-Z,<-aa,<-ab];obtain⟨w5,F⟩:∃W,W=w4.alloc (.cells #[.int .i64 r,.slice b1 l d1,.slice b2 m d2,.slice b3 p d3] 25):=⟨_,rfl⟩;have B5:Below w4.heap.size w4 w5:=by rw[F];exact box_bel _ _
 have T5:TC w4.heap.size [.int .i64 r,.slice b1 l d1,.slice b2 m d2,.slice b3 p d3] w5:=by rw[F];exact TC.boxed w4 _ _
 obtain⟨D,K,x,g⟩:=H3.out;have d:=B4.trans (B5.mono B4.size);have ag:=d.size;have h:TC w2.heap.size [.int .i64 r,.slice s l c1,.slice t m c2,.slice u p c3] w5:=K.block (d.block _ (by omega));have q:=g.trans (d.mono g.size);have aq:Hid (Calls Tryz.prog 23 #[.slice (some ⟨W0.heap.size,0,none⟩) n (n+3),.slice ad n cap] w5 λe w'=>e=.returned (.bool true)/\w'=w5):=by
  refine q9U W0.heap.size n cap ad f w5 hn (HR.out.1.below hg q) (λi hi=>?_);obtain⟨b,off,h1,h2,h3⟩:=(G.out.below q) (by omega);exact⟨b,off,h1,h3 i hi⟩
 have ap:Hid (Calls Tryz.prog 11 #[.agg #[.int .i64 r,.slice s l c1,.slice t m c2,.slice u p c3],.agg #[.int .i64 r,.slice b1 l d1,.slice b2 m d2,.slice b3 p d3]] w5 λe w'=>e=.returned (.bool true)/\Below w5.heap.size w5 w'):=by
  show Calls _ _ _ _ _;have:=Bu.sameMachine_any r a a' (λi=>(L i).length) c c' (λi j=>(L i).getD j 0) w5 (λi _ _=>by have:=HO.out.1 i;omega) (λi i1 i2=>((HV.out.2.2.2.1 i i1 i2).below D).below d) (λi i1 i2=>(an i i1 i2).below B5);rw[q2s r a (λi=>(L i).length) c,q2s r a' (λi=>(L i).length) c']at this;obtain⟨q1,q2,q3,q4,q5,q6,q7,q8,q9⟩:=z.out;rw[q1,q2,q3,q4,q5,q6,q7,q8,q9,S,T,U,Z,aa,ab];exact this
 have av:=hyd F;have p0:=(h 0 _ rfl).1;have q0:=(T5 0 _ rfl).1;have p1:=(h 1 _ rfl).1;have q1:=(T5 1 _ rfl).1;have p2:=(h 2 _ rfl).1;have q2:=(T5 2 _ rfl).1;have p3:=(h 3 _ rfl).1;have q3:=(T5 3 _ rfl).1;have H5:=hyd3 q d h;clear F B5 T5 D K x g d ag h q B4 an S T U Z aa ab;go_wp2_with fail;rw[<-av.out];refine aq.out.mono ?_;rintro en ax ⟨rfl,rfl⟩;go_wp2_with fail;clear p0 p1 p2 p3 q0 q1 q2 q3;refine ap.out.mono ?_;rintro en w6 ⟨rfl,B6⟩;obtain⟨q,d,h⟩:=H5.out;obtain⟨D,K,x,g⟩:=H3.out;obtain⟨T0,B0,E⟩:=H0.out;have ag:=d.size;have z2:=J.out.size;have z1:=HR.out.2.size;have T6:TC w2.heap.size [.int .i64 r,.slice s l c1,.slice t m c2,.slice u p c3] w6:=h.block (B6.block _ (by omega));have p0:=(T6 0 _ rfl).1;have p1:=(T6 1 _ rfl).1;have p2:=(T6 2 _ rfl).1;have p3:=(T6 3 _ rfl).1;have I:Below W0.heap.size W0 w6:=HR.out.2.trans ((q.trans (B6.mono (by omega))).mono (by omega));have TZ:TC w.heap.size macZ w6:=T0.block (I.block _ (by omega));have BB:Below w.heap.size w w6:=B0.trans (I.mono (by omega));obtain⟨tz,BX,B,hG⟩:=q1e (.int .i64 r) (.slice s l c1) (.slice t m c2) (.slice u p c3) TZ BB;obtain⟨WX,O⟩:=nam (w6.setCells w.heap.size 0 [.int .i64 r,.slice s l c1,.slice t m c2,.slice u p c3]);rw[<-O]at BX B hG;have HX:Hid (BtPost r L w (.returned (.tuple #[.agg #[.int .i64 r,.slice s l c1,.slice t m c2,.slice u p c3],.bool true])) WX):=by
  obtain⟨v1,v2,v3,v4,v5⟩:=HV.out;refine⟨BX,vv,?_,λi i1 i2=>?_,v3⟩
  ·obtain⟨q1,q2,q3,q4,q5,q6,q7,q8,q9⟩:=z.out;rw[v5,q2s r a (λi=>(L i).length) c,q1,q2,q3,q4,q5,q6,q7,q8,q9]
  have o:=v2 i i1 i2;have ob:=o.blk;have o2:=((o.below D).below d).below B6;exact(o2.grown hG (λk hk e=>by have:=Option.some.inj e;have:=(ob k hk).1;omega)).mono (by omega)
 have ar:=hyd O;have aj:=hyd B;clear O B hG BX q d h D K x g T0 B0 E ag z2 z1 T6 I TZ BB B6;go_wp2_with (first|(with_reducible refine gst 25 ?_;refine Stop.out ?_));refine⟨?_⟩;refine wpList_store_mid rfl 25 _ _ rfl w.heap.size 0 #[.int .i64 r,.slice s l c1,.slice t m c2,.slice u p c3] rfl rfl tz q0D (by simp[Value.oneCell']) ?_;rw[List.toList_toArray,<-ar.out];go_wp2_with fail;exact bodyPost_ret (v:=.tuple #[.agg #[.int .i64 r,.slice s l c1,.slice t m c2,.slice u p c3],.bool true]) (q0L Tryz.results7 rfl aj.out rfl) rfl HX.out
theorem y3k {L:Nat->List Int} (h:∀i,1<=i->i<=3->OwnL B (vv i) (L i) w) (hD:∀i j,1<=i->i<=3->1<=j->j<=3->i≠j->∀k,(vv i).ownBlock=some k->(vv j).ownBlock≠some k):
  ∃G C,ThR vv G C w/\∀i,1<=i->i<=3->0<C i->B<=G i/\G i<w.heap.size:=by
 have v:∀i:Nat,∃g c,1<=i->i<=3->Rm (vv i) g c w/\(0<c->(vv i).ownBlock=some g):=λi=>by
  by_cases p:1<=i/\i<=3
  ·obtain⟨g,c,o,l⟩:=own_rm (h i p.1 p.2);exact⟨g,c,λ_ _=>⟨o,l⟩⟩
  exact⟨0,0,λa b=>absurd ⟨a,b⟩ p⟩
 obtain⟨G,u⟩:=Classical.axiomOfChoice v;obtain⟨C,m⟩:=Classical.axiomOfChoice u;refine⟨G,C,⟨λi d f=>(m i d f).1,λi j d f r s q n t e=>?_⟩,λi d f n=>(h i d f).blk _ ((m i d f).2 n)⟩;have o:=(m i d f).2 n;have l:=(m j r s).2 t;rw[<-e]at l;exact hD i j d f r s q _ o l
theorem BtPost.flat {r:Nat}{L:Nat->List Int} (h:BtPost r L w en w'):∃(vv:Nat->Value) (a1 a2 a3:Option Addr) (n1 n2 n3 c1 c2 c3:Nat),
  en=.returned (.tuple #[.agg #[.int .i64 r,.slice a1 n1 c1,.slice a2 n2 c2,.slice a3 n3 c3],.bool true])/\Hid (Below w.heap.size w w'/\triC r vv=#[.int .i64 r,.slice a1 n1 c1,.slice a2 n2 c2,.slice a3 n3 c3]/\n1=(L 1).length/\n2=(L 2).length/\n3=(L 3).length /\
   (∀i,1<=i->i<=3->OwnL w.heap.size (vv i) (L i) w')/\∀i j,1<=i->i<=3->1<=j->j<=3->i≠j->∀k,(vv i).ownBlock=some k->(vv j).ownBlock≠some k):=by
 obtain⟨f,vv,rfl,d,e⟩:=h;obtain⟨a,c,b,e2,il⟩:=y0n d;refine⟨vv,a 1,a 2,a 3,(L 1).length,(L 2).length,(L 3).length,c 1,c 2,c 3,?_,f,b r,rfl,rfl,rfl,d,e⟩;rw[b];rfl
theorem y2G {L:Nat->List Int}{r:Int}{a1 a2 a3:Option Addr}{n1 n2 n3 c1 c2 c3:Nat} (h:∀i,1<=i->i<=3->OwnL B (vv i) (L i) w) (e:triC r vv=#[.int .i64 r,.slice a1 n1 c1,.slice a2 n2 c2,.slice a3 n3 c3]):∀i,1<=i->i<=3->IL (tri a1 a2 a3 i) (λj=>(L i).getD j 0) (L i).length w:=by
 unfold triC at e;have e':=Array.mk.inj e;simp only[List.cons.injEq,and_true,true_and]at e';obtain⟨f,e2,g⟩:=e';have b:∀i,1<=i->i<=3->∀a n c,vv i=.slice a n c->IL a (λj=>(L i).getD j 0) (L i).length w:=λi m o a n c l=>by
  obtain⟨a',p,d,k⟩:=(h i m o).il;rw[l]at d;rw[(Value.slice.inj d).1];exact k
 exact q2l (b 1 (by omega) (by omega) _ _ _ f) (b 2 (by omega) (by omega) _ _ _ e2) (b 3 (by omega) (by omega) _ _ _ g)
theorem q5E (ad:Option Addr) (n cap:Nat) (f:Nat->ByteArray) (w:World) (hn:n+3<=17592186044416) (hm:∀i,i<n->(f i).size<=maxLen) (had:Had ad n f w):
  Calls Tryz.prog 3 #[.slice ad n cap] w λe w'=>e=.returned (.bool true)/\Below w.heap.size w w':=by
 have hz:=q1i;obtain⟨e,r,L,hO,_⟩:=y3H n f (by unfold maxLen;omega) hm;have ar:Hid (∀w',Had ad n f w'->Calls Tryz.prog 7 #[.slice ad n cap] w' (BtPost r L w')):=λw' h=>y0Q ad n cap f e r L w' hn hO h
 have HO:=hyd hO;have ac:=hyd had;have au:=hyd (ar.out w had);clear hO had hm;go_enter Tryz.func3,Tryz.ntmps3;go_wp2_with fail;refine au.out.mono ?_;intro en w1 P;obtain⟨vv,E,F,H,R,S,T,c1,c2,c3,rfl,H1⟩:=P.flat;clear P au;obtain⟨w2,s⟩:=nam (w1.alloc (.cells #[.int .i64 r,.slice E R c1,.slice F S c2,.slice H T c3] 25));have B2:Below w1.heap.size w1 w2:=by rw[s];exact box_bel _ _
 have T2:TC w1.heap.size [.int .i64 r,.slice E R c1,.slice F S c2,.slice H T c3] w2:=by rw[s];exact TC.boxed w1 _ _
 have s2:w2.heap.size=w1.heap.size+1:=by rw[s];simp
 obtain⟨G,C,az,a⟩:=y3k H1.out.2.2.2.2.2.1 H1.out.2.2.2.2.2.2;have s1:=H1.out.1.size;have A:Hid (Calls Tryz.prog 8 #[.agg #[.int .i64 r,.slice E R c1,.slice F S c2,.slice H T c3]] w2 λe w'=>e=.returned (.tuple #[])/\ThR vv G C w'/\(∀i,1<=i->i<=3->NRow (G i) (λ_=>7777776+(i:Int)) (C i) w')/\Below w.heap.size w2 w'/\(∀q,q<w2.heap.size->(∀i,1<=i->i<=3->0<C i->q≠G i)->w'.heap[q]?=w2.heap[q]?)/\w2.heap.size<=w'.heap.size):=by
  show Calls _ _ _ _ _;rw[<-H1.out.2.1];exact Bu.fullMachine_any r vv G C w.heap.size w2 (az.below B2) (λi b c ci=>(a i b c ci).1) (by omega)
 have ax:=hyd s;have Z:=(T2 0 _ rfl).1;have p1:=(T2 1 _ rfl).1;have p2:=(T2 2 _ rfl).1;have p3:=(T2 3 _ rfl).1;rw[s]at Z p1 p2 p3;have H2:=hyd5 (H1.out.1.trans (B2.mono s1)) T2 s2 a s1;clear s B2 T2 s2 az a s1;go_wp2_with fail;rw[<-ax.out];clear Z p1 p2 p3;refine A.out.mono ?_;rintro en o ⟨rfl,X,U,ap,aB,z3⟩;obtain⟨an,T2,s2,a,s1⟩:=H2.out;have d:=an.trans ap;have T3:TC w1.heap.size [.int .i64 r,.slice E R c1,.slice F S c2,.slice H T c3] o:=T2.block (aB _ (by omega) (λi b c ci e=>by have:=(a i b c ci).2;omega));have ae:=ac.out.below d;have av:=hyd (ar.out o ae);have H3:Hid (ThR vv G C o/\(∀i,1<=i->i<=3->NRow (G i) (λ_=>7777776+(i:Int)) (C i) o)/\Below w.heap.size w o/\TC w1.heap.size [.int .i64 r,.slice E R c1,.slice F S c2,.slice H T c3] o/\w1.heap.size<o.heap.size/\(∀i,1<=i->i<=3->0<C i->w.heap.size<=G i/\G i<w1.heap.size)/\triC r vv=#[.int .i64 r,.slice E R c1,.slice F S c2,.slice H T c3]):=⟨X,U,d,T3,by omega,a,H1.out.2.1⟩;clear X U ap aB z3 an T2 s2 a s1 d T3 ae H2 A ax;go_wp2_with fail;refine av.out.mono ?_;intro en l P;obtain⟨uu,I,J,K,x,m2,y,M,N,O,rfl,H4⟩:=P.flat;clear P av;obtain⟨w5,t⟩:=nam (l.alloc (.cells #[.int .i64 r,.slice I x M,.slice J m2 N,.slice K y O] 25));have B5:Below l.heap.size l w5:=by rw[t];exact box_bel _ _
 have T5:TC l.heap.size [.int .i64 r,.slice I x M,.slice J m2 N,.slice K y O] w5:=by rw[t];exact TC.boxed l _ _
 have s5:w5.heap.size=l.heap.size+1:=by rw[t];simp
 obtain⟨X,U,d,T3,z3,a,ev⟩:=H3.out;have af:=H4.out.1;have u:=af.size;have z:=af.trans (B5.mono u);have g:TC w1.heap.size [.int .i64 r,.slice E R c1,.slice F S c2,.slice H T c3] w5:=T3.block (z.block _ z3);have v:=X.below z;have aD:∀i,1<=i->i<=3->NRow (G i) (λ_=>7777776+(i:Int)) (C i) w5:=λi b c=>(U i b c).below z
 have aw:Hid (Calls Tryz.prog 9 #[.agg #[.int .i64 r,.slice E R c1,.slice F S c2,.slice H T c3]] w5 λe w'=>e=.returned (.bool true)/\Below w5.heap.size w5 w'):=by
  show Calls _ _ _ _ _;rw[<-ev];exact Bu.filledMachine_any r vv G C w5 v aD
 have ay:=hyd t;have Z:=(g 0 _ rfl).1;have p1:=(g 1 _ rfl).1;have p2:=(g 2 _ rfl).1;have p3:=(g 3 _ rfl).1;rw[t]at Z p1 p2 p3;have H5:Hid (ThR vv G C w5/\Below w.heap.size w w5/\TC w1.heap.size [.int .i64 r,.slice E R c1,.slice F S c2,.slice H T c3] w5/\TC l.heap.size [.int .i64 r,.slice I x M,.slice J m2 N,.slice K y O] w5/\w5.heap.size=l.heap.size+1/\(∀i,1<=i->i<=3->OwnL o.heap.size (uu i) (L i) w5)/\o.heap.size<=l.heap.size):=⟨v,d.trans (z.mono d.size),g,T5,s5,λi b c=>(H4.out.2.2.2.2.2.1 i b c).below B5,u⟩;clear t B5 T5 s5 X U d T3 af u z g v aD ev z3 a;go_wp2_with fail;rw[<-ay.out];clear Z p1 p2 p3;refine aw.out.mono ?_;rintro en p ⟨rfl,B6⟩;obtain⟨v,aa,g,T5,s5,aE,u⟩:=H5.out;obtain⟨_,_,d,_,z3,a,ev⟩:=H3.out;have s6:=B6.size;have B:TC w1.heap.size [.int .i64 r,.slice E R c1,.slice F S c2,.slice H T c3] p:=g.block (B6.block _ (by omega));have T6:TC l.heap.size [.int .i64 r,.slice I x M,.slice J m2 N,.slice K y O] p:=T5.block (B6.block _ (by omega));have A:Hid (Calls Tryz.prog 8 #[.agg #[.int .i64 r,.slice E R c1,.slice F S c2,.slice H T c3]] p λe w'=>e=.returned (.tuple #[])/\ThR vv G C w'/\(∀i,1<=i->i<=3->NRow (G i) (λ_=>7777776+(i:Int)) (C i) w')/\Below w.heap.size p w'/\(∀q,q<p.heap.size->(∀i,1<=i->i<=3->0<C i->q≠G i)->w'.heap[q]?=p.heap[q]?)/\p.heap.size<=w'.heap.size):=by
  show Calls _ _ _ _ _;rw[<-ev];exact Bu.fullMachine_any r vv G C w.heap.size p (v.below B6) (λi b c ci=>(a i b c ci).1) (by have:=aa.size;omega)
 have Z:=(B 0 _ rfl).1;have p1:=(B 1 _ rfl).1;have p2:=(B 2 _ rfl).1;have p3:=(B 3 _ rfl).1;have H6:Hid (Below w.heap.size w p/\TC l.heap.size [.int .i64 r,.slice I x M,.slice J m2 N,.slice K y O] p/\l.heap.size<p.heap.size/\o.heap.size<=l.heap.size/\w1.heap.size<o.heap.size/\(∀i,1<=i->i<=3->OwnL o.heap.size (uu i) (L i) p)/\(∀i,1<=i->i<=3->0<C i->w.heap.size<=G i/\G i<w1.heap.size)):=⟨aa.trans (B6.mono aa.size),T6,by omega,u,z3,λi b c=>(aE i b c).below B6,a⟩;clear v aa g T5 s5 aE u d z3 a ev s6 B T6 B6 H5 H3 aw ay;go_wp2_with fail;clear Z p1 p2 p3;refine A.out.mono ?_;rintro en Y ⟨rfl,_,_,aq,aC,z7⟩;obtain⟨ao,T6,z6,aM,aL,am,a⟩:=H6.out;have kp:∀q,w1.heap.size<=q->q<p.heap.size->Y.heap[q]?=p.heap[q]?:=λq h1 h2=>aC q h2 (λi b c ci e=>by have:=(a i b c ci).2;omega)
 have T7:TC l.heap.size [.int .i64 r,.slice I x M,.slice J m2 N,.slice K y O] Y:=T6.block (kp _ (by omega) z6);have V:∀i,1<=i->i<=3->OwnL o.heap.size (uu i) (L i) Y:=λi b c=>(am i b c).keep (λk hk=>by
  have:=(am i b c).blk k hk;exact kp k (by omega) this.2)
 have m:Below w.heap.size w Y:=ao.trans aq;have aH:Hid (Calls Tryz.prog 10 #[.slice ad n cap] Y (RAns e r L Y)):=HO.out.2.2.2 _ _ Y (ac.out.below m);have H7:Hid (Below w.heap.size w Y/\TC l.heap.size [.int .i64 r,.slice I x M,.slice J m2 N,.slice K y O] Y/\l.heap.size<Y.heap.size/\(∀i,1<=i->i<=3->OwnL o.heap.size (uu i) (L i) Y)):=⟨m,T7,by omega,V⟩;clear aq aC z7 ao T6 z6 aM aL am a kp T7 V m A H6;go_wp2_with fail;refine aH.out.mono ?_;rintro en w8 ⟨B8,a',c',rfl,aA⟩;rw[q2s r a' (λi=>(L i).length) c'];obtain⟨f1,ag⟩:∃f1,f1=a' 1:=⟨_,rfl⟩;obtain⟨f2,ah⟩:∃f2,f2=a' 2:=⟨_,rfl⟩;obtain⟨f3,ai⟩:∃f3,f3=a' 3:=⟨_,rfl⟩;obtain⟨g1,aj⟩:∃g1,g1=c' 1:=⟨_,rfl⟩;obtain⟨g2,ak⟩:∃g2,g2=c' 2:=⟨_,rfl⟩;obtain⟨g3,al⟩:∃g3,g3=c' 3:=⟨_,rfl⟩;obtain⟨_,eu,q1,q2,q3,_,_⟩:=H4.out;rw[<-q1,<-q2,<-q3,<-ag,<-ah,<-ai,<-aj,<-ak,<-al];obtain⟨w9,Q⟩:∃W,W=w8.alloc (.cells #[.int .i64 r,.slice f1 x g1,.slice f2 m2 g2,.slice f3 y g3] 25):=⟨_,rfl⟩;have B9:Below w8.heap.size w8 w9:=by rw[Q];exact box_bel _ _
 have T9:TC w8.heap.size [.int .i64 r,.slice f1 x g1,.slice f2 m2 g2,.slice f3 y g3] w9:=by rw[Q];exact TC.boxed w8 _ _
 obtain⟨m,T7,aF,V⟩:=H7.out;have ab:=B8.trans (B9.mono B8.size);have D:TC l.heap.size [.int .i64 r,.slice I x M,.slice J m2 N,.slice K y O] w9:=T7.block (ab.block _ aF);have aI:Hid (Calls Tryz.prog 11 #[.agg #[.int .i64 r,.slice I x M,.slice J m2 N,.slice K y O],.agg #[.int .i64 r,.slice f1 x g1,.slice f2 m2 g2,.slice f3 y g3]] w9 λe w'=>e=.returned (.bool true)/\Below w9.heap.size w9 w'):=by
  show Calls _ _ _ _ _;have aK:=y2G V eu;have:=Bu.sameMachine_any r (tri I J K) a' (λi=>(L i).length) (tri M N O) c' (λi j=>(L i).getD j 0) w9 (λi _ _=>by have:=HO.out.1 i;omega) (λi b c=>(aK i b c).below ab) (λi b c=>(aA i b c).below B9);rw[q2s r (tri I J K) (λi=>(L i).length) (tri M N O),q2s r a' (λi=>(L i).length) c']at this;rw[q1,q2,q3,ag,ah,ai,aj,ak,al];exact this
 have aJ:=hyd Q;have Z:=(D 0 _ rfl).1;have p1:=(D 1 _ rfl).1;have p2:=(D 2 _ rfl).1;have p3:=(D 3 _ rfl).1;have p4:=(T9 0 _ rfl).1;have p5:=(T9 1 _ rfl).1;have p6:=(T9 2 _ rfl).1;have p7:=(T9 3 _ rfl).1;rw[Q]at Z p1 p2 p3 p4 p5 p6 p7;have H9:=hyd (m.trans (ab.mono m.size));clear Q B9 T9 m T7 aF V ab D ag ah ai aj ak al eu q1 q2 q3 B8 aA;go_wp2_with fail;rw[<-aJ.out];clear Z p1 p2 p3 p4 p5 p6 p7;refine aI.out.mono ?_;rintro en aN ⟨rfl,aG⟩;go_wp2_with fail;go_ret;exact⟨rfl,H9.out.trans (aG.mono H9.out.size)⟩
end Go.Proofs.YtoaaklhpmhjhkaaGreat
