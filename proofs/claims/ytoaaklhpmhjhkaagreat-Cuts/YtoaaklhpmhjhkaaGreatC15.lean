import Derived.Test.YtoaaklhpmhjhkaaGreatC13
import Derived.Test.YtoaaklhpmhjhkaaGreatC14
set_option maxRecDepth 100000
set_option maxHeartbeats 4000000
set_option linter.all false
namespace Go.Proofs.YtoaaklhpmhjhkaaGreat
open Go.Proofs.Tryz
open Go.RowKit
def xE(s:ByteArray)(i:Int):Int:=Pg.iI (Y7 s (i+1))
def EV(s:ByteArray)(w:World)(kd pl n:Int)(ok:Bool)(f:Nat->Bool)(mo fa:Int)(e:Ending)(w':World):Prop:=
 ∃(kd' pl':Int) (f':Nat->Bool) (le' mo' fa':Int),e=.returned (.tuple #[.agg (YY kd' pl' f' le' mo' fa').toArray,.int .i64 n,.bool ok])/\Below w.heap.size w w' /\
  (ok=true->kd'=kd/\pl'=pl/\f'=f/\mo'=mo/\fa'=fa/\(kd=8->le'=xE s pl))
def LP(s:ByteArray)(i:Int)(w:World)(h0:0<=i)(h1:i<=300):
  Cp 207 #[.string s,I6 i] w (EV s w 8 i (Pg.iB (Y7 s) i).n (Pg.iB (Y7 s) i).ok (λ_=>false) (Pg.iB (Y7 s) i).v (Pg.gZ (Y7 s) i)):=by
 have z:Hid (Pg.iB (Y7 s) i=if Pg.iI (Y7 s (i+1))<0 then ⟨0,i+1,false⟩ else Pg.gR (Y7 s) (i+2) (Pg.iI (Y7 s (i+1)))):=rfl;have hz:=XH;have D:=Sh;obtain⟨o,j⟩:=NP w;have E:=j.store 8 i (λ_=>false) 0 0 (-1);have f:=j.put 8 i (λ_=>false) 0 0 (-1);have q:=o.far (w.heap.size+1) 0 (YY 8 i (λ_=>false) 0 0 (-1)) Qo;have G:Bl w (((w.alloc (Obj.cells (YY 0 0 (λ_=>false) 0 0 0).toArray 261)).alloc (Obj.cells (YY 0 0 (λ_=>false) 0 0 0).toArray 261)).setCells (w.heap.size+1) 0 (YY 8 i (λ_=>false) 0 0 (-1))):=(((Zk _ _).alloc (Zg _) _).alloc Qs _).trans (Y6 _ _ 0 Qo _ _ _);clear o j;go_enter func207,ntmps207;go_wp2_with fail;clear E hz D;generalize (((w.alloc (Obj.cells (YY 0 0 (λ_=>false) 0 0 0).toArray 261)).alloc (Obj.cells (YY 0 0 (λ_=>false) 0 0 0).toArray 261)).setCells (w.heap.size+1) 0 (YY 8 i (λ_=>false) 0 0 (-1)))=W at *;apply(YN s (i+1) _).mono;rintro e W ⟨rfl,rfl⟩;have u:=f.c3;have C:=f.fr 258 Qo;have b:=f.put3 (Pg.iI (Y7 s (i+1)));have d:=q.far1 (w.heap.size+1) 258 (I6 (Pg.iI (Y7 s (i+1)))) Qo;have g:=G.trans ((Zk w.heap.size W).setCell (p:=(a_ (w.heap.size+1) 258)) Qs (I6 (Pg.iI (Y7 s (i+1)))));clear f q G;go_wp2_with fail;apply(Xm _ _).mono;rintro e W ⟨rfl,rfl⟩;by_cases c1:Pg.iI (Y7 s (i+1))<0
 .have l:Hid (Pg.iB (Y7 s) i=⟨0,i+1,false⟩):=by show _=_;rw[z.o,dF c1]
  go_wp2_with (first|(with_reducible refine lP rfl b.at_ ?_)|(with_reducible refine sP rfl rfl d.free ?_));have a:=(d.put 8 i (λ_=>false) (Pg.iI (Y7 s (i+1))) 0 (-1)).load;apply Zr (v:=.tuple #[.agg (YY 8 i (λ_=>false) (Pg.iI (Y7 s (i+1))) 0 (-1)).toArray,I6 (i+1),.bool false]) (YL results207 Qs a Qs Qs) rfl;rw[l.o];exact⟨_,_,_,_,_,_,rfl,g.trans (Y6 _ _ 0 (Zg _) _ _ _),λh=>by cases h⟩
 have l:Hid (Pg.iB (Y7 s) i=Pg.gR (Y7 s) (i+2) (Pg.iI (Y7 s (i+1)))):=by show _=_;rw[z.o,dG c1]
 have y:Hid (Pg.gZ (Y7 s) i=if (Pg.gR (Y7 s) (i+2) (Pg.iI (Y7 s (i+1)))).v<Pg.iI (Y7 s (i+1)) then i else -1):=by show _=_;rw[Pg.gZ,l.o]
 have x:=b.c3;go_wp2_with fail;apply(Ko s (i+2) _ _ Qo Qo).mono;rintro e N ⟨rfl,rfl⟩;generalize W.setCell (a_ (w.heap.size+1) 258) (Value.int .i64 (Pg.iI (Y7 s (i+1))))=V at *;clear u C x z;generalize Pg.gR (Y7 s) (i+2) (Pg.iI (Y7 s (i+1)))=r at *;have F:Hid (Pg.iI (Y7 s (i+1))=xE s i):=rfl;generalize Pg.iI (Y7 s (i+1))=le at *;obtain⟨mo,n,ok⟩:=r;have u:=b.c3;have H:=b.c4;have L:=b.fr 259 Qo;cases ok
 .go_wp2_with (first|(with_reducible refine lP rfl b.at_ ?_)|(with_reducible refine sP rfl rfl d.free ?_));have a:=(d.put 8 i (λ_=>false) le 0 (-1)).load;apply Zr (v:=.tuple #[.agg (YY 8 i (λ_=>false) le 0 (-1)).toArray,I6 n,.bool false]) (YL results207 Qs a Qs Qs) rfl;rw[l.o,y.o];exact⟨_,_,_,_,_,_,rfl,g.trans (Y6 _ _ 0 (Zg _) _ _ _),λh=>by cases h⟩
 have c:=b.put4 mo;have k:=d.far1 (w.heap.size+1) 259 (I6 mo) Qo;have m:=g.trans ((Zk w.heap.size V).setCell (p:=(a_ (w.heap.size+1) 259)) Qs (I6 mo));have I:=c.c3;have J:=c.c4;have K:=c.c5;have M:=c.fr 260 Qo;have B:=c.put5 i;have t:=k.far1 (w.heap.size+1) 260 (I6 i) Qo;have A:=m.trans ((Zk w.heap.size (V.setCell (a_ (w.heap.size+1) 259) (I6 mo))).setCell (p:=(a_ (w.heap.size+1) 260)) Qs (I6 i));by_cases c2:mo<le
 .go_wp2_with (first|(with_reducible refine lP rfl B.at_ ?_)|(with_reducible refine sP rfl rfl t.free ?_));have a:=(t.put 8 i (λ_=>false) le mo i).load;apply Zr (v:=.tuple #[.agg (YY 8 i (λ_=>false) le mo i).toArray,I6 n,.bool true]) (YL results207 Qs a Qs Qs) rfl;rw[l.o,y.o];exact⟨_,_,_,_,_,_,rfl,A.trans (Y6 _ _ 0 (Zg _) _ _ _),λ_=>⟨rfl,rfl,rfl,rfl,(dF c2).symm,λ_=>F.o⟩⟩
 go_wp2_with (first|(with_reducible refine lP rfl c.at_ ?_)|(with_reducible refine sP rfl rfl k.free ?_));have a:=(k.put 8 i (λ_=>false) le mo (-1)).load;apply Zr (v:=.tuple #[.agg (YY 8 i (λ_=>false) le mo (-1)).toArray,I6 n,.bool true]) (YL results207 Qs a Qs Qs) rfl;rw[l.o,y.o];exact⟨_,_,_,_,_,_,rfl,m.trans (Y6 _ _ 0 (Zg _) _ _ _),λ_=>⟨rfl,rfl,rfl,rfl,(g_).symm,λ_=>F.o⟩⟩
def Jb(s:ByteArray)(k0:Nat)(w:World)(hs:s.size<=40)(aw:k0<=40):
  Cp 212 #[.string s,I6 k0] w (EV s w 1 k0 (Pg.gM (Y7 s) s.size k0).n (Pg.gM (Y7 s) s.size k0).ok (Pg.gM (Y7 s) s.size k0).f 0 (Pg.gM (Y7 s) s.size k0).fa):=by
 have hz:=XH;have aq:=Sh;let⟨ac,U⟩:=NP w;have ar:=U.store 1 k0 (λ_=>false) 0 0 (-1);have a:=U.put 1 k0 (λ_=>false) 0 0 (-1);have d:=ac.far (w.heap.size+1) 0 (YY 1 k0 (λ_=>false) 0 0 (-1)) Qo;have C:Bl w (((w.alloc (Obj.cells (YY 0 0 (λ_=>false) 0 0 0).toArray 261)).alloc (Obj.cells (YY 0 0 (λ_=>false) 0 0 0).toArray 261)).setCells (w.heap.size+1) 0 (YY 1 k0 (λ_=>false) 0 0 (-1))):=(((Zk _ _).alloc (Zg _) _).alloc Qs _).trans (Y6 _ _ 0 Qo _ _ _);clear ac U;go_enter func212,ntmps212;go_wp2_with fail;clear ar hz aq;generalize (((w.alloc (Obj.cells (YY 0 0 (λ_=>false) 0 0 0).toArray 261)).alloc (Obj.cells (YY 0 0 (λ_=>false) 0 0 0).toArray 261)).setCells (w.heap.size+1) 0 (YY 1 k0 (λ_=>false) 0 0 (-1)))=W at *;apply(YN s ((k0:Int)+1) _).mono;rintro e W ⟨rfl,rfl⟩;by_cases I:Y7 s ((k0:Int)+1)=94
 .have ai:(Y7 s ((k0:Int)+1)==94)=true:=by simpa using I
  let⟨R,V⟩:=nam (Pg.gK (Y7 s) s.size ((k0:Int)+2) (s.size+1) ((k0:Int)+2) (-1) (λ_=>false));have T:Hid (Pg.gM (Y7 s) s.size k0=⟨R.n,R.ok,λk=>!R.f k,R.fa⟩):=by show _=_;rw[Pg.gM,dF I,V];rfl
  have A:=hyd V;clear V I;go_wp2_with fail
  go_loopw [10] (λx w'=>∃(u k:Nat) (fa:Int) (f:N_),x=I6 k/\k0+2<=k/\s.size<u+k/\1<=u/\k<=60/\Yz w.heap.size 0 0 (λ_=>false) 0 0 0 w'/\Yz (w.heap.size+1) 1 k0 f 0 0 fa w'/\Bl w w'/\Hid (R=Pg.gK (Y7 s) s.size ((k0:Int)+2) u k fa f)) (λx _=>70-(intOf x).toNat)
  .exact⟨s.size+1,k0+2,-1,λ_=>false,Qg,Qo,Qo,Qo,Qo,d,a,C,A⟩
  clear d a C A;obtain⟨u,k,fa,f,rfl,ap,av,au,ah,d,a,C,A⟩:=hrel;by_cases ab:k<s.size
  .rcases u with _|u
   .omega
   have z:Y7 s (k:Int)=(s[k].toNat:Int):=by
    have:=JJ (s:=s) (i:=(k:Int)) (by simpa using ab) Qo;simpa using this
   have D:(k:Int)<(s.size:Int):=Qo
   by_cases m:Y7 s (k:Int)=93/\((k0:Int)+2)<(k:Int)
   .have ae:((s[k].toNat:Int)==93)=true:=by rw[<-z];simpa using m.1
    have an:=m.2;have g:Hid (R=⟨(k:Int)+1,true,f,fa⟩):=by show _=_;rw[A.o,Pg.gK,dF D,dF m]
    clear A z m;go_wp2_with (first|(with_reducible apply gld 251;refine Zb rfl 251 _ rfl _ _ rfl _ _ a.set u_c rfl (by rw[YX];exact YF) ?_));apply(Na f _).mono;rintro e q ⟨rfl,b⟩;have l:=a.below a.lt b;have N:=d.below d.lt b;have L:=C.trans (b.mono C.size);have t:=l.put2 (λk=>!f k);have o:=N.far (w.heap.size+1) 2 (Yo λk=>!f k) Qo;have r:=L.trans (Y6 w.heap.size (w.heap.size+1) 2 Qo (Yo λk=>!f k) q 2);go_wp2_with (first|(with_reducible apply gst 251;refine Za rfl 251 _ _ rfl _ _ _ rfl rfl (by simpa[YX]using l.setFree) (by simpa[YX]using YF) (Zj (Xx _)) ?_)|(with_reducible refine lP rfl t.at_ ?_)|(with_reducible refine sP rfl rfl o.free ?_));have j:=(o.put 1 k0 (λk=>!f k) 0 0 fa).load;apply Zr (v:=.tuple #[.agg (YY 1 k0 (λk=>!f k) 0 0 fa).toArray,I6 ((k:Int)+1),.bool true]) (YL results212 Qs j Qs Qs) rfl;rw[T.o,g.o];exact⟨_,_,_,_,_,_,rfl,r.trans (Y6 _ _ 0 (Zg _) _ _ _),λ_=>⟨rfl,rfl,rfl,rfl,rfl,λh=>absurd h Qd⟩⟩
   have y:Hid (R=if (Pg.ir (Y7 s) k).ok then Pg.gK (Y7 s) s.size ((k0:Int)+2) u (Pg.ir (Y7 s) k).n (if (Pg.ir (Y7 s) k).hi<(Pg.ir (Y7 s) k).lo/\fa=-1 then (k:Int) else fa) (Pg.gY f (Pg.ir (Y7 s) k).lo (Pg.ir (Y7 s) k).hi) else ⟨(Pg.ir (Y7 s) k).n,false,f,fa⟩):=by show _=_;rw[A.o,Pg.gK,dF D,dG m]
   have H:=Pg.iP (Y7 s) k (Mw s);let⟨ao,aa,P⟩:=H;have K:=hyd P;clear A P;have G:((s[k].toNat:Int)==93)=false\/(((s[k].toNat:Int)==93)=true/\¬((k0:Int)+2)<(k:Int)):=by
    by_cases E:Y7 s (k:Int)=93
    .right;exact⟨by rw[<-z];simpa using E,λh=>m ⟨E,h⟩⟩
    left;rw[<-z];simpa using E
   clear z m;rcases G with G|⟨G,af⟩
   all_goals
    go_wp2_with fail;apply(QA s (k:Int) _ Qo Qo).mono;rintro e W ⟨rfl,rfl⟩;generalize Pg.ir (Y7 s) k=it at *;let⟨lo,hi,n,ok⟩:=it;cases ok
    .go_wp2_with (first|(with_reducible refine lP rfl a.at_ ?_)|(with_reducible refine sP rfl rfl d.free ?_));have j:=(d.put 1 k0 f 0 0 fa).load;apply Zr (v:=.tuple #[.agg (YY 1 k0 f 0 0 fa).toArray,I6 n,.bool false]) (YL results212 Qs j Qs Qs) rfl;rw[T.o,y.o];exact⟨_,_,_,_,_,_,rfl,C.trans (Y6 _ _ 0 (Zg _) _ _ _),λh=>by cases h⟩
    have g1:(k:Int)<n:=(K rfl).1;have ag:n<=(k:Int)+9:=aa;clear K;obtain⟨Q,rfl⟩:=ZA (show 0<=n by omega);have aj:=a.c5;have al:=a.fr 260 Qo;by_cases c:hi<lo/\fa=-1
    .have g:Hid (R=Pg.gK (Y7 s) s.size ((k0:Int)+2) u Q k (Pg.gY f lo hi)):=by show _=_;rw[y.o];simp only[dF c,dB]
     let⟨ak,X⟩:=c;subst X;clear y;have F:=a.put5 (k:Int);have O:=d.far1 (w.heap.size+1) 260 (I6 (k:Int)) Qo;have M:=C.trans ((Zk w.heap.size W).setCell (p:=(a_ (w.heap.size+1) 260)) Qs (I6 (k:Int)));go_wp2_with (first|(with_reducible apply gld 251;refine Zb rfl 251 _ rfl _ _ rfl _ _ F.set u_c rfl (by rw[YX];exact YF) ?_));apply(Wd f lo hi _).mono;rintro e q ⟨rfl,b⟩;have l:=F.below F.lt b;have N:=O.below O.lt b;have L:=M.trans (b.mono M.size);have t:=l.put2 (Pg.gY f lo hi);have o:=N.far (w.heap.size+1) 2 (Yo (Pg.gY f lo hi)) Qo;have r:=L.trans (Y6 w.heap.size (w.heap.size+1) 2 Qo (Yo (Pg.gY f lo hi)) q 2);go_wp2_with (first|(with_reducible apply gst 251;refine Za rfl 251 _ _ rfl _ _ _ rfl rfl (by simpa[YX]using l.setFree) (by simpa[YX]using YF) (Zj (Xx _)) ?_));go_roundw
     .exact⟨u,Q,k,_,rfl,Qo,Qo,Qo,Qo,o,t,r,g⟩
     simp[intOf];omega
    have g:Hid (R=Pg.gK (Y7 s) s.size ((k0:Int)+2) u Q fa (Pg.gY f lo hi)):=by show _=_;rw[y.o];simp only[dG c,dB]
    clear y;have hS:∀q,Bl W q->(Yz w.heap.size 0 0 (λ_=>false) 0 0 0 (q.setCells (w.heap.size+1) 2 (Yo (Pg.gY f lo hi)))/\Yz (w.heap.size+1) 1 k0 (Pg.gY f lo hi) 0 0 fa (q.setCells (w.heap.size+1) 2 (Yo (Pg.gY f lo hi)))/\Bl w (q.setCells (w.heap.size+1) 2 (Yo (Pg.gY f lo hi)))):=λq b=>
     ⟨(d.below d.lt b).far (w.heap.size+1) 2 _ Qo,(a.below a.lt b).put2 _,(C.trans (b.mono C.size)).trans (Y6 w.heap.size (w.heap.size+1) 2 Qo _ q 2)⟩
    have HS:Hid _:=hS;clear hS;by_cases Z:hi<lo
    .have am:(fa==-1)=false:=by rw[dU];intro h;exact c ⟨Z,h⟩
     clear c;go_wp2_with (first|(with_reducible apply gld 251;refine Zb rfl 251 _ rfl _ _ rfl _ _ a.set u_c rfl (by rw[YX];exact YF) ?_));apply(Wd f lo hi _).mono;rintro e q ⟨rfl,b⟩;let⟨o,t,r⟩:=HS.o q b;have l:=a.below a.lt b;go_wp2_with (first|(with_reducible apply gst 251;refine Za rfl 251 _ _ rfl _ _ _ rfl rfl (by simpa[YX]using l.setFree) (by simpa[YX]using YF) (Zj (Xx _)) ?_));go_roundw
     .exact⟨u,Q,fa,_,rfl,Qo,Qo,Qo,Qo,o,t,r,g⟩
     simp[intOf];omega
    clear c;go_wp2_with (first|(with_reducible apply gld 251;refine Zb rfl 251 _ rfl _ _ rfl _ _ a.set u_c rfl (by rw[YX];exact YF) ?_));apply(Wd f lo hi _).mono;rintro e q ⟨rfl,b⟩;let⟨o,t,r⟩:=HS.o q b;have l:=a.below a.lt b;go_wp2_with (first|(with_reducible apply gst 251;refine Za rfl 251 _ _ rfl _ _ _ rfl rfl (by simpa[YX]using l.setFree) (by simpa[YX]using YF) (Zj (Xx _)) ?_));go_roundw
    .exact⟨u,Q,fa,_,rfl,Qo,Qo,Qo,Qo,o,t,r,g⟩
    simp[intOf];omega
  have Y:¬(k:Int)<(s.size:Int):=Qo
  have g:Hid (∃J S B,R=⟨J,false,S,B⟩/\J=(s.size:Int)):=by
   show ∃J S B,R=⟨J,false,S,B⟩/\J=(s.size:Int);rw[A.o];rcases u with _|u
   .omega
   exact⟨_,_,_,by rw[Pg.gK,dG Y],rfl⟩
  clear A;go_wp2_with (first|(with_reducible refine lP rfl a.at_ ?_)|(with_reducible refine sP rfl rfl d.free ?_));have j:=(d.put 1 k0 f 0 0 fa).load;apply Zr (v:=.tuple #[.agg (YY 1 k0 f 0 0 fa).toArray,I6 (s.size:Int),.bool false]) (YL results212 Qs j Qs Qs) rfl;let⟨J,S,B,h1,h2⟩:=g.o;subst h2;rw[T.o,h1];exact⟨_,_,_,_,_,_,rfl,C.trans (Y6 _ _ 0 (Zg _) _ _ _),λh=>by cases h⟩
 have ai:(Y7 s ((k0:Int)+1)==94)=false:=by simpa using I
 let⟨R,V⟩:=nam (Pg.gK (Y7 s) s.size ((k0:Int)+1) (s.size+1) ((k0:Int)+1) (-1) (λ_=>false));have T:Hid (Pg.gM (Y7 s) s.size k0=R):=by show _=_;rw[Pg.gM,dG I,V];rfl
 have A:=hyd V;clear V I;go_wp2_with fail
 go_loopw [10] (λx w'=>∃(u k:Nat) (fa:Int) (f:N_),x=I6 k/\k0+1<=k/\s.size<u+k/\1<=u/\k<=60/\Yz w.heap.size 0 0 (λ_=>false) 0 0 0 w'/\Yz (w.heap.size+1) 1 k0 f 0 0 fa w'/\Bl w w'/\Hid (R=Pg.gK (Y7 s) s.size ((k0:Int)+1) u k fa f)) (λx _=>70-(intOf x).toNat)
 .exact⟨s.size+1,k0+1,-1,λ_=>false,Qg,Qo,Qo,Qo,Qo,d,a,C,A⟩
 clear d a C A;obtain⟨u,k,fa,f,rfl,ap,av,au,ah,d,a,C,A⟩:=hrel;by_cases ab:k<s.size
 .rcases u with _|u
  .omega
  have z:Y7 s (k:Int)=(s[k].toNat:Int):=by
   have:=JJ (s:=s) (i:=(k:Int)) (by simpa using ab) Qo;simpa using this
  have D:(k:Int)<(s.size:Int):=Qo
  by_cases m:Y7 s (k:Int)=93/\((k0:Int)+1)<(k:Int)
  .have ae:((s[k].toNat:Int)==93)=true:=by rw[<-z];simpa using m.1
   have an:=m.2;have g:Hid (R=⟨(k:Int)+1,true,f,fa⟩):=by show _=_;rw[A.o,Pg.gK,dF D,dF m]
   clear A z m;go_wp2_with (first|(with_reducible refine lP rfl a.at_ ?_)|(with_reducible refine sP rfl rfl d.free ?_));have j:=(d.put 1 k0 f 0 0 fa).load;apply Zr (v:=.tuple #[.agg (YY 1 k0 f 0 0 fa).toArray,I6 ((k:Int)+1),.bool true]) (YL results212 Qs j Qs Qs) rfl;rw[T.o,g.o];exact⟨_,_,_,_,_,_,rfl,C.trans (Y6 _ _ 0 (Zg _) _ _ _),λ_=>⟨rfl,rfl,rfl,rfl,rfl,λh=>absurd h Qd⟩⟩
  have y:Hid (R=if (Pg.ir (Y7 s) k).ok then Pg.gK (Y7 s) s.size ((k0:Int)+1) u (Pg.ir (Y7 s) k).n (if (Pg.ir (Y7 s) k).hi<(Pg.ir (Y7 s) k).lo/\fa=-1 then (k:Int) else fa) (Pg.gY f (Pg.ir (Y7 s) k).lo (Pg.ir (Y7 s) k).hi) else ⟨(Pg.ir (Y7 s) k).n,false,f,fa⟩):=by show _=_;rw[A.o,Pg.gK,dF D,dG m]
  have H:=Pg.iP (Y7 s) k (Mw s);let⟨ao,aa,P⟩:=H;have K:=hyd P;clear A P;have G:((s[k].toNat:Int)==93)=false\/(((s[k].toNat:Int)==93)=true/\¬((k0:Int)+1)<(k:Int)):=by
   by_cases E:Y7 s (k:Int)=93
   .right;exact⟨by rw[<-z];simpa using E,λh=>m ⟨E,h⟩⟩
   left;rw[<-z];simpa using E
  clear z m;rcases G with G|⟨G,af⟩
  all_goals
   go_wp2_with fail;apply(QA s (k:Int) _ Qo Qo).mono;rintro e W ⟨rfl,rfl⟩;generalize Pg.ir (Y7 s) k=it at *;let⟨lo,hi,n,ok⟩:=it;cases ok
   .go_wp2_with (first|(with_reducible refine lP rfl a.at_ ?_)|(with_reducible refine sP rfl rfl d.free ?_));have j:=(d.put 1 k0 f 0 0 fa).load;apply Zr (v:=.tuple #[.agg (YY 1 k0 f 0 0 fa).toArray,I6 n,.bool false]) (YL results212 Qs j Qs Qs) rfl;rw[T.o,y.o];exact⟨_,_,_,_,_,_,rfl,C.trans (Y6 _ _ 0 (Zg _) _ _ _),λh=>by cases h⟩
   have g1:(k:Int)<n:=(K rfl).1;have ag:n<=(k:Int)+9:=aa;clear K;obtain⟨Q,rfl⟩:=ZA (show 0<=n by omega);have aj:=a.c5;have al:=a.fr 260 Qo;by_cases c:hi<lo/\fa=-1
   .have g:Hid (R=Pg.gK (Y7 s) s.size ((k0:Int)+1) u Q k (Pg.gY f lo hi)):=by show _=_;rw[y.o];simp only[dF c,dB]
    let⟨ak,X⟩:=c;subst X;clear y;have F:=a.put5 (k:Int);have O:=d.far1 (w.heap.size+1) 260 (I6 (k:Int)) Qo;have M:=C.trans ((Zk w.heap.size W).setCell (p:=(a_ (w.heap.size+1) 260)) Qs (I6 (k:Int)));go_wp2_with (first|(with_reducible apply gld 251;refine Zb rfl 251 _ rfl _ _ rfl _ _ F.set u_c rfl (by rw[YX];exact YF) ?_));apply(Wd f lo hi _).mono;rintro e q ⟨rfl,b⟩;have l:=F.below F.lt b;have N:=O.below O.lt b;have L:=M.trans (b.mono M.size);have t:=l.put2 (Pg.gY f lo hi);have o:=N.far (w.heap.size+1) 2 (Yo (Pg.gY f lo hi)) Qo;have r:=L.trans (Y6 w.heap.size (w.heap.size+1) 2 Qo (Yo (Pg.gY f lo hi)) q 2);go_wp2_with (first|(with_reducible apply gst 251;refine Za rfl 251 _ _ rfl _ _ _ rfl rfl (by simpa[YX]using l.setFree) (by simpa[YX]using YF) (Zj (Xx _)) ?_));go_roundw
    .exact⟨u,Q,k,_,rfl,Qo,Qo,Qo,Qo,o,t,r,g⟩
    simp[intOf];omega
   have g:Hid (R=Pg.gK (Y7 s) s.size ((k0:Int)+1) u Q fa (Pg.gY f lo hi)):=by show _=_;rw[y.o];simp only[dG c,dB]
   clear y;have hS:∀q,Bl W q->(Yz w.heap.size 0 0 (λ_=>false) 0 0 0 (q.setCells (w.heap.size+1) 2 (Yo (Pg.gY f lo hi)))/\Yz (w.heap.size+1) 1 k0 (Pg.gY f lo hi) 0 0 fa (q.setCells (w.heap.size+1) 2 (Yo (Pg.gY f lo hi)))/\Bl w (q.setCells (w.heap.size+1) 2 (Yo (Pg.gY f lo hi)))):=λq b=>
    ⟨(d.below d.lt b).far (w.heap.size+1) 2 _ Qo,(a.below a.lt b).put2 _,(C.trans (b.mono C.size)).trans (Y6 w.heap.size (w.heap.size+1) 2 Qo _ q 2)⟩
   have HS:Hid _:=hS;clear hS;by_cases Z:hi<lo
   .have am:(fa==-1)=false:=by rw[dU];intro h;exact c ⟨Z,h⟩
    clear c;go_wp2_with (first|(with_reducible apply gld 251;refine Zb rfl 251 _ rfl _ _ rfl _ _ a.set u_c rfl (by rw[YX];exact YF) ?_));apply(Wd f lo hi _).mono;rintro e q ⟨rfl,b⟩;let⟨o,t,r⟩:=HS.o q b;have l:=a.below a.lt b;go_wp2_with (first|(with_reducible apply gst 251;refine Za rfl 251 _ _ rfl _ _ _ rfl rfl (by simpa[YX]using l.setFree) (by simpa[YX]using YF) (Zj (Xx _)) ?_));go_roundw
    .exact⟨u,Q,fa,_,rfl,Qo,Qo,Qo,Qo,o,t,r,g⟩
    simp[intOf];omega
   clear c;go_wp2_with (first|(with_reducible apply gld 251;refine Zb rfl 251 _ rfl _ _ rfl _ _ a.set u_c rfl (by rw[YX];exact YF) ?_));apply(Wd f lo hi _).mono;rintro e q ⟨rfl,b⟩;let⟨o,t,r⟩:=HS.o q b;have l:=a.below a.lt b;go_wp2_with (first|(with_reducible apply gst 251;refine Za rfl 251 _ _ rfl _ _ _ rfl rfl (by simpa[YX]using l.setFree) (by simpa[YX]using YF) (Zj (Xx _)) ?_));go_roundw
   .exact⟨u,Q,fa,_,rfl,Qo,Qo,Qo,Qo,o,t,r,g⟩
   simp[intOf];omega
 have Y:¬(k:Int)<(s.size:Int):=Qo
 have g:Hid (∃J S B,R=⟨J,false,S,B⟩/\J=(s.size:Int)):=by
  show ∃J S B,R=⟨J,false,S,B⟩/\J=(s.size:Int);rw[A.o];rcases u with _|u
  .omega
  exact⟨_,_,_,by rw[Pg.gK,dG Y],rfl⟩
 clear A;go_wp2_with (first|(with_reducible refine lP rfl a.at_ ?_)|(with_reducible refine sP rfl rfl d.free ?_));have j:=(d.put 1 k0 f 0 0 fa).load;apply Zr (v:=.tuple #[.agg (YY 1 k0 f 0 0 fa).toArray,I6 (s.size:Int),.bool false]) (YL results212 Qs j Qs Qs) rfl;let⟨J,S,B,h1,h2⟩:=g.o;subst h2;rw[T.o,h1];exact⟨_,_,_,_,_,_,rfl,C.trans (Y6 _ _ 0 (Zg _) _ _ _),λh=>by cases h⟩
def LR(s:ByteArray)(Z:Nat)(w:World)(hs:s.size<=40)(aa:Z<=40):
  Cp 206 #[.string s,I6 Z] w (EV s w 1 Z (Pg.iC (Y7 s) s.size Z).n (Pg.iC (Y7 s) s.size Z).ok (Pg.iC (Y7 s) s.size Z).f 0 (Pg.iC (Y7 s) s.size Z).fa):=by
 have hz:=XH;have U:=Sh;obtain⟨E,z⟩:=NP w;have V:=z.store 1 Z (λ_=>false) 0 0 (-1);have g:=z.put 1 Z (λ_=>false) 0 0 (-1);have d:=E.far (w.heap.size+1) 0 (YY 1 Z (λ_=>false) 0 0 (-1)) Qo;have x:Bl w (((w.alloc (Obj.cells (YY 0 0 (λ_=>false) 0 0 0).toArray 261)).alloc (Obj.cells (YY 0 0 (λ_=>false) 0 0 0).toArray 261)).setCells (w.heap.size+1) 0 (YY 1 Z (λ_=>false) 0 0 (-1))):=(((Zk _ _).alloc (Zg _) _).alloc Qs _).trans (Y6 _ _ 0 Qo _ _ _);clear E z;go_enter func206,ntmps206;go_wp2_with fail;clear V hz U;generalize (((w.alloc (Obj.cells (YY 0 0 (λ_=>false) 0 0 0).toArray 261)).alloc (Obj.cells (YY 0 0 (λ_=>false) 0 0 0).toArray 261)).setCells (w.heap.size+1) 0 (YY 1 Z (λ_=>false) 0 0 (-1)))=W at *;apply(YN s (Z:Int) _).mono;rintro e W ⟨rfl,rfl⟩;by_cases c:Y7 s (Z:Int)=91
 .have y:Hid (Pg.iC (Y7 s) s.size Z=Pg.gM (Y7 s) s.size Z):=by show _=_;rw[Pg.iC,dF c]
  have P:(Y7 s (Z:Int)==91)=true:=by simpa using c
  clear c;go_wp2_with fail;apply(Jb s Z _ hs aa).mono;rintro e p ⟨J,M,f',K,L,B,rfl,a,I⟩;have N:Hid _:=I;clear I;have j:=d.below d.lt a;have i:=x.trans (a.mono x.size);go_wp2_with (first|(with_reducible refine sP rfl rfl j.free ?_));have b:=(j.put J M f' K L B).load;apply Zr (v:=.tuple #[.agg (YY J M f' K L B).toArray,I6 (Pg.gM (Y7 s) s.size Z).n,.bool (Pg.gM (Y7 s) s.size Z).ok]) (YL results206 Qs b Qs Qs) rfl;rw[y.o];exact⟨_,_,_,_,_,_,rfl,i.trans (Y6 _ _ 0 (Zg _) _ _ _),N.o⟩
 have P:(Y7 s (Z:Int)==91)=false:=by simpa using c
 by_cases l:Y7 s (Z:Int)=46
 .have y:Hid (Pg.iC (Y7 s) s.size Z=⟨(Z:Int)+1,true,λk=>!(Pg.gY (λ_=>false) 10 10 k),-1⟩):=by show _=_;rw[Pg.iC,dG c,dF l]
  have O:(Y7 s (Z:Int)==46)=true:=by simpa using l
  have hz:=NV;clear c l;go_wp2_with (first|(with_reducible apply gld 251;refine Zb rfl 251 _ rfl _ _ rfl _ _ g.set u_c rfl (by rw[YX];exact YF) ?_));apply(Wd _ _ _ _).mono;rintro e p ⟨rfl,a⟩;have m:=g.below g.lt a;have j:=d.below d.lt a;have i:=x.trans (a.mono x.size);have Y:=XZ.boxed p (λ_=>false) 251;have D:=Y.there;have S:((p.alloc (Obj.cells (Yo λ_=>false).toArray 251)).setCells p.heap.size 0 (Yo (Pg.gY (λ_=>false) 10 10))).rangeAt p.heap.size 0 (Yo (Pg.gY (λ_=>false) 10 10)):=Zo _ _ _ _ (by rw[YX];exact D);have G:=(m.alloc (Obj.cells (Yo λ_=>false).toArray 251)).far p.heap.size 0 (Yo (Pg.gY (λ_=>false) 10 10)) (by have:=m.lt;omega);have F:=(j.alloc (Obj.cells (Yo λ_=>false).toArray 251)).far p.heap.size 0 (Yo (Pg.gY (λ_=>false) 10 10)) (by have:=j.lt;omega);have C:Bl w ((p.alloc (Obj.cells (Yo λ_=>false).toArray 251)).setCells p.heap.size 0 (Yo (Pg.gY (λ_=>false) 10 10))):=(i.alloc i.size _).trans (Y6 w.heap.size p.heap.size 0 i.size (Yo (Pg.gY (λ_=>false) 10 10)) _ 0);go_wp2_with (first|(with_reducible apply gst 251;refine Za rfl 251 _ _ rfl _ _ _ rfl rfl (by simpa[YX]using D) (by simpa[YX]using YF) (Zj (Xx _)) ?_)|(with_reducible apply gld 251;refine Zb rfl 251 _ rfl _ _ rfl _ _ S u_c rfl (by rw[YX];exact YF) ?_));apply(Na _ _).mono;rintro e X ⟨rfl,A⟩;have H:=G.below G.lt A;have T:=F.below F.lt A;have R:=C.trans (A.mono C.size);have u:=H.put2 (λk=>!(Pg.gY (λ_=>false) 10 10 k));have o:=T.far (w.heap.size+1) 2 (Yo (λk=>!(Pg.gY (λ_=>false) 10 10 k))) Qo;have t:=R.trans (Y6 w.heap.size (w.heap.size+1) 2 Qo (Yo (λk=>!(Pg.gY (λ_=>false) 10 10 k))) X 2);clear hz;go_wp2_with (first|(with_reducible apply gst 251;refine Za rfl 251 _ _ rfl _ _ _ rfl rfl (by simpa[YX]using H.setFree) (by simpa[YX]using YF) (Zj (Xx _)) ?_)|(with_reducible refine lP rfl u.at_ ?_)|(with_reducible refine sP rfl rfl o.free ?_));have b:=(o.put 1 Z (λk=>!(Pg.gY (λ_=>false) 10 10 k)) 0 0 (-1)).load;apply Zr (v:=.tuple #[.agg (YY 1 Z (λk=>!(Pg.gY (λ_=>false) 10 10 k)) 0 0 (-1)).toArray,I6 ((Z:Int)+1),.bool true]) (YL results206 Qs b Qs Qs) rfl;rw[y.o];exact⟨_,_,_,_,_,_,rfl,t.trans (Y6 _ _ 0 (Zg _) _ _ _),λ_=>⟨rfl,rfl,rfl,rfl,rfl,λh=>absurd h Qd⟩⟩
 have O:(Y7 s (Z:Int)==46)=false:=by simpa using l
 by_cases q:Y7 s (Z:Int)=92
 .have y:Hid (Pg.iC (Y7 s) s.size Z=⟨(Pg.iz (Y7 s) Z).n,(Pg.iz (Y7 s) Z).ok,Pg.gY (λ_=>false) (Pg.iz (Y7 s) Z).v (Pg.iz (Y7 s) Z).v,-1⟩):=by show _=_;rw[Pg.iC,dG c,dG l,dF q]
  have Q:(Y7 s (Z:Int)==92)=true:=by simpa using q
  clear c l q;go_wp2_with fail;apply(SH s (Z:Int) _ Qo Qo).mono;rintro e W ⟨rfl,rfl⟩;generalize Pg.iz (Y7 s) Z=r at *;obtain⟨v,n,ok⟩:=r;cases ok
  .go_wp2_with (first|(with_reducible refine lP rfl g.at_ ?_)|(with_reducible refine sP rfl rfl d.free ?_));have b:=(d.put 1 Z (λ_=>false) 0 0 (-1)).load;apply Zr (v:=.tuple #[.agg (YY 1 Z (λ_=>false) 0 0 (-1)).toArray,I6 n,.bool false]) (YL results206 Qs b Qs Qs) rfl;rw[y.o];exact⟨_,_,_,_,_,_,rfl,x.trans (Y6 _ _ 0 (Zg _) _ _ _),λh=>by cases h⟩
  go_wp2_with (first|(with_reducible apply gld 251;refine Zb rfl 251 _ rfl _ _ rfl _ _ g.set u_c rfl (by rw[YX];exact YF) ?_));apply(Wd _ _ _ _).mono;rintro e p ⟨rfl,a⟩;have m:=g.below g.lt a;have j:=d.below d.lt a;have i:=x.trans (a.mono x.size);have u:=m.put2 (Pg.gY (λ_=>false) v v);have o:=j.far (w.heap.size+1) 2 (Yo (Pg.gY (λ_=>false) v v)) Qo;have t:=i.trans (Y6 w.heap.size (w.heap.size+1) 2 Qo (Yo (Pg.gY (λ_=>false) v v)) p 2);go_wp2_with (first|(with_reducible apply gst 251;refine Za rfl 251 _ _ rfl _ _ _ rfl rfl (by simpa[YX]using m.setFree) (by simpa[YX]using YF) (Zj (Xx _)) ?_)|(with_reducible refine lP rfl u.at_ ?_)|(with_reducible refine sP rfl rfl o.free ?_));have b:=(o.put 1 Z (Pg.gY (λ_=>false) v v) 0 0 (-1)).load;apply Zr (v:=.tuple #[.agg (YY 1 Z (Pg.gY (λ_=>false) v v) 0 0 (-1)).toArray,I6 n,.bool true]) (YL results206 Qs b Qs Qs) rfl;rw[y.o];exact⟨_,_,_,_,_,_,rfl,t.trans (Y6 _ _ 0 (Zg _) _ _ _),λ_=>⟨rfl,rfl,rfl,rfl,rfl,λh=>absurd h Qd⟩⟩
 have Q:(Y7 s (Z:Int)==92)=false:=by simpa using q
 have y:Hid (Pg.iC (Y7 s) s.size Z=⟨(Z:Int)+1,true,Pg.gY (λ_=>false) (Y7 s Z) (Y7 s Z),-1⟩):=by show _=_;rw[Pg.iC,dG c,dG l,dG q]
 clear c l q;go_wp2_with (first|(with_reducible apply gld 251;refine Zb rfl 251 _ rfl _ _ rfl _ _ g.set u_c rfl (by rw[YX];exact YF) ?_));apply(Wd _ _ _ _).mono;rintro e p ⟨rfl,a⟩;have m:=g.below g.lt a;have j:=d.below d.lt a;have i:=x.trans (a.mono x.size);have u:=m.put2 (Pg.gY (λ_=>false) (Y7 s Z) (Y7 s Z));have o:=j.far (w.heap.size+1) 2 (Yo (Pg.gY (λ_=>false) (Y7 s Z) (Y7 s Z))) Qo;have t:=i.trans (Y6 w.heap.size (w.heap.size+1) 2 Qo (Yo (Pg.gY (λ_=>false) (Y7 s Z) (Y7 s Z))) p 2);go_wp2_with (first|(with_reducible apply gst 251;refine Za rfl 251 _ _ rfl _ _ _ rfl rfl (by simpa[YX]using m.setFree) (by simpa[YX]using YF) (Zj (Xx _)) ?_)|(with_reducible refine lP rfl u.at_ ?_)|(with_reducible refine sP rfl rfl o.free ?_));have b:=(o.put 1 Z (Pg.gY (λ_=>false) (Y7 s Z) (Y7 s Z)) 0 0 (-1)).load;apply Zr (v:=.tuple #[.agg (YY 1 Z (Pg.gY (λ_=>false) (Y7 s Z) (Y7 s Z)) 0 0 (-1)).toArray,I6 ((Z:Int)+1),.bool true]) (YL results206 Qs b Qs Qs) rfl;rw[y.o];exact⟨_,_,_,_,_,_,rfl,t.trans (Y6 _ _ 0 (Zg _) _ _ _),λ_=>⟨rfl,rfl,rfl,rfl,rfl,λh=>absurd h Qd⟩⟩
def Kp(s:ByteArray)(J:Nat)(kd:Int)(w:World)(hs:s.size<=40)(Y:J<=40):
  Cp 195 #[.string s,I6 J,I6 kd] w (EV s w kd J (Pg.gV (Y7 s) s.size J kd).n (Pg.gV (Y7 s) s.size J kd).ok (Pg.gV (Y7 s) s.size J kd).f (Pg.gV (Y7 s) s.size J kd).mo (Pg.gV (Y7 s) s.size J kd).fa):=by
 have hz:=XH;have u:=Sh;have b:=Yz.boxed w 0 0 (λ_=>false) 0 0 0 261;have t:Bl w (w.alloc (Obj.cells (YY 0 0 (λ_=>false) 0 0 0).toArray 261)):=(Zk _ _).alloc (Zg _) _;by_cases c1:kd=1
 .subst c1;have q:Hid (Pg.gV (Y7 s) s.size J 1=⟨(Pg.iC (Y7 s) s.size J).n,(Pg.iC (Y7 s) s.size J).ok,(Pg.iC (Y7 s) s.size J).f,0,(Pg.iC (Y7 s) s.size J).fa⟩):=rfl;go_enter func195,ntmps195;go_wp2_with fail;apply(LR s J _ hs Y).mono;rintro e y ⟨j,m,f',k,l,c,rfl,g,i⟩;have o:Hid _:=i;clear i hz u;have d:=b.below b.lt g;have p:=t.trans (g.mono t.size);go_wp2_with (first|(with_reducible refine sP rfl rfl d.free ?_));have a:=(d.put j m f' k l c).load;apply Zr (v:=.tuple #[.agg (YY j m f' k l c).toArray,I6 (Pg.iC (Y7 s) s.size J).n,.bool (Pg.iC (Y7 s) s.size J).ok]) (YL results195 Qs a Qs Qs) rfl;rw[q.o];exact⟨_,_,_,_,_,_,rfl,p.trans (Y6 _ _ 0 (Zg _) _ _ _),o.o⟩
 have G:(kd==1)=false:=by simpa using c1
 by_cases r:kd=8
 .subst r;have q:Hid (Pg.gV (Y7 s) s.size J 8=⟨(Pg.iB (Y7 s) J).n,(Pg.iB (Y7 s) J).ok,λ_=>false,(Pg.iB (Y7 s) J).v,Pg.gZ (Y7 s) J⟩):=rfl;go_enter func195,ntmps195;go_wp2_with fail;apply(LP s (J:Int) _ Qo Qo).mono;rintro e y ⟨j,m,f',k,l,c,rfl,g,i⟩;have o:Hid _:=i;clear i hz u;have d:=b.below b.lt g;have p:=t.trans (g.mono t.size);go_wp2_with (first|(with_reducible refine sP rfl rfl d.free ?_));have a:=(d.put j m f' k l c).load;apply Zr (v:=.tuple #[.agg (YY j m f' k l c).toArray,I6 (Pg.iB (Y7 s) J).n,.bool (Pg.iB (Y7 s) J).ok]) (YL results195 Qs a Qs Qs) rfl;rw[q.o];exact⟨_,_,_,_,_,_,rfl,p.trans (Y6 _ _ 0 (Zg _) _ _ _),λh=>by
   obtain⟨z,A,B,C,D,E⟩:=o.o h;exact⟨z,A,B,C,D,λ_=>E trivial⟩⟩
 have H:(kd==8)=false:=by simpa using r
 have q:Hid (Pg.gV (Y7 s) s.size J kd=⟨(J:Int)+1,true,λ_=>false,0,-1⟩):=by show _=_;rw[Pg.gV,dG c1,dG r]
 have F:=b.store kd J (λ_=>false) 0 0 (-1);have x:=hyd r;clear c1 r;go_enter func195,ntmps195;go_wp2_with fail;have a:=(b.put kd J (λ_=>false) 0 0 (-1)).load;apply Zr (v:=.tuple #[.agg (YY kd J (λ_=>false) 0 0 (-1)).toArray,I6 ((J:Int)+1),.bool true]) (YL results195 Qs a Qs Qs) rfl;rw[q.o];exact⟨_,_,_,_,_,_,rfl,t.trans (Y6 _ _ 0 (Zg _) _ _ _),λ_=>⟨rfl,rfl,rfl,rfl,rfl,λh=>absurd h x.o⟩⟩
